/-
  The walk of TrafficOne.
-/
import Derived.Test.YtellaeihcignaaaGreatDoorTfW
import Derived.Test.YtellaeihcignaaaGreatDoorTrafficHomeW
set_option linter.unusedVariables false
set_option linter.unusedSimpArgs false
set_option maxRecDepth 100000
namespace Go.Proofs.YtellaeihcignaaaGreatDoor
namespace Tf
open Go.RowKit Fl Tr Pt
open Lk (Ow T0 zns at9)

theorem St.poke {w : World} {S g M cap top : Nat} {W H : Int} {s : ByteArray} {R : List Mv} {T : List Ow} (h : St w S g M cap top W H s R T) {b x : Nat} (v : Value) (hb : b < S ∧ b < g ∧ b < M) : St (w.setCell ⟨b, x, none⟩ v) S g M cap top W H s R T := by
  obtain ⟨P, h1, h2⟩ := h.mv
  have t := h.tops
  refine ⟨(heap_setCell_other w ⟨b, x, none⟩ S v (by show S ≠ b; omega)).trans h.box, h.lk.same (heap_setCell_other w ⟨b, x, none⟩ g v (by show g ≠ b; omega)), ⟨P, ownsRow_same h1 (fun k hq => ?_), h2.keep (KeepT.put w v (by omega))⟩, ⟨t.1, t.2.1, t.2.2.1, by simp [World.setCell]; exact t.2.2.2⟩, h.diff⟩
  have hq : some M = some k := hq
  injection hq with hq
  subst hq
  exact heap_setCell_other w ⟨b, x, none⟩ M v (by show M ≠ b; omega)
theorem Lp.poke {w0 w : World} {bF S g M cap top : Nat} {W H : Int} {s : ByteArray} {R : List Mv} {T : List Ow} (h : Lp w0 bF S g M cap top W H s R T w) {b x : Nat} (v : Value) (hb : b < S ∧ b < g ∧ b < M) (hw : w0.heap.size ≤ b) (hf : bF ≠ b) : Lp w0 bF S g M cap top W H s R T (w.setCell ⟨b, x, none⟩ v) :=
  ⟨h.below.setCell hw v, h.st.poke v hb, h.inv, (heap_setCell_other w ⟨b, x, none⟩ bF v (by show bF ≠ b; exact hf)).trans h.fb, h.ge⟩
theorem Sx.zero {b k : Nat} {r f t : Int} {A : Option Addr} {n c : Nat} {w : World} (h : Sx b k r f t A n c w) : Sx b 0 r f t A n c (w.setCell ⟨b, 0, none⟩ (.int .u8 0)) :=
  heap_setCell_same w b 0 _ _ (.int .u8 0) h
theorem docked_left (s : ByteArray) (q : Nat) (r : Int) : leftF (docked s q) r = [] := by
  unfold leftF
  split
  · rename_i h
    obtain ⟨k, rfl⟩ := Int.eq_ofNat_of_zero_le h.1
    rw [docked_len] at h
    rw [Int.toNat_natCast, docked_get s (by omega)]
  · rfl
theorem docked_startF (W H : Int) (s : ByteArray) (q : Nat) (r : Int) (L : List Ac) : (∃ k : Nat, r = (k : Int) ∧ k < q ∧ RightIs W H s (k : Int) (dk s (k : Int)) L ∧ startF W H s (docked s q) r L = (0, (docked s q).set k (dk s (k : Int), L, false))) ∨
    (∃ er, er ≠ 0 ∧ startF W H s (docked s q) r L = (er, docked s q)) := by
  by_cases hr : 0 ≤ r ∧ r < (docked s q).length
  · obtain ⟨k, rfl⟩ := Int.eq_ofNat_of_zero_le hr.1
    have hk : k < q := by rw [docked_len] at hr; omega
    by_cases hR : RightIs W H s (k : Int) (dk s (k : Int)) L
    · refine .inl ⟨k, rfl, hk, hR, ?_⟩
      unfold startF
      rw [if_pos hr, if_pos hR, Int.toNat_natCast, docked_get s hk, if_neg (by simp)]
    · refine .inr ⟨1, by decide, ?_⟩
      unfold startF
      rw [if_pos hr, if_neg hR]
  · refine .inr ⟨1, by decide, ?_⟩
    unfold startF
    rw [if_neg hr]
/-- One robot has something to do, and nobody else. -/
def Only (R : List Mv) (k : Nat) (l : List Ac) : Prop := k < R.length ∧ (∃ c, getM R k = (c, l, false)) ∧ ∀ b, b < R.length → b ≠ k → (getM R b).2.1 = []
theorem only_start {s : ByteArray} {q k : Nat} {L : List Ac} (hk : k < q) : Only ((docked s q).set k (dk s (k : Int), L, false)) k L := by
  have hl : k < (docked s q).length := by rw [docked_len]; exact hk
  refine ⟨by rw [List.length_set]; exact hl, ⟨dk s (k : Int), by rw [getM_set _ _ _ _ hl, if_pos rfl]⟩, fun b hb hne => ?_⟩
  rw [List.length_set, docked_len] at hb
  rw [getM_set _ _ _ _ hl, if_neg hne, docked_get s hb]
theorem alone_step {W H : Int} {s : ByteArray} {R : List Mv} {T : List Ow} {k : Nat} {a : Ac} {l L : List Ac} (h : Inv W H s R T) (hq : Only R k (a :: l)) (hri : RightIs W H s (k : Int) (dk s (k : Int)) L) :
    ∃ R1 T1 R2 T2, grantF s R T (k : Int) = ((a, 0), R1, T1) ∧ grantF s R1 T1 (k : Int) = (((0, 0, 0), 111), R1, T1) ∧ startF W H s R1 (k : Int) L = (3, R1) ∧ doneF s R1 T1 (k : Int) = (0, R2, T2) ∧ doneF s R2 T2 (k : Int) = (2, R2, T2) ∧ Inv W H s R1 T1 ∧ Inv W H s R2 T2 ∧ Only R2 k l := by
  obtain ⟨hk, ⟨c, hm⟩, hal⟩ := hq
  have g1 := grantF_go (s := s) (T := T) hk hm (h.goes_may hk (h.alone hk hal) (by rw [hm]))
  have i1 := h.grantF (k : Int)
  rw [g1] at i1
  have i1 : Inv W H s (R.set k (c, a :: l, true)) (giveT T (k : Int) (az s a)) := i1
  have hk1 : k < (R.set k (c, a :: l, true)).length := by rw [List.length_set]; exact hk
  have m1 : getM (R.set k (c, a :: l, true)) k = (c, a :: l, true) := by rw [getM_set _ _ _ _ hk, if_pos rfl]
  have g3 := doneF_go (s := s) (T := giveT T (k : Int) (az s a)) hk1 m1
  have i2 := i1.doneF (k : Int)
  rw [g3] at i2
  have hk2 : k < ((R.set k (c, a :: l, true)).set k ((if a.1 = 1 then a.2.1 else c, l, false) : Mv)).length := by rw [List.length_set]; exact hk1
  have m2 : getM ((R.set k (c, a :: l, true)).set k ((if a.1 = 1 then a.2.1 else c, l, false) : Mv)) k = (if a.1 = 1 then a.2.1 else c, l, false) := by rw [getM_set _ _ _ _ hk1, if_pos rfl]
  refine ⟨_, _, _, _, g1, grantF_busy hk1 (by rw [m1]; simp) (by rw [m1]), ?_, g3, doneF_none hk2 (by rw [m2]), i1, i2, hk2, ⟨_, m2⟩, fun b hb hne => ?_⟩
  · unfold startF
    rw [if_pos ⟨by omega, by omega⟩, if_pos hri, Int.toNat_natCast, m1, if_pos (by simp)]
  · rw [List.length_set, List.length_set] at hb
    rw [getM_set _ _ _ _ hk1, if_neg hne, getM_set _ _ _ _ hk, if_neg hne]
    exact hal b hb hne
theorem cell11_any {w : World} {S g M cap top : Nat} {W H : Int} {s : ByteArray} {R : List Mv} {T : List Ow} (h : St w S g M cap top W H s R T) (r : Int) : Calls Tryz.prog 36 #[.pointer (some ⟨S, 0, none⟩), .int .i64 r] w fun e w' => e = .returned (.int .i64 (cellF R r).1) ∧ Below w.heap.size w w' := by
  have HC := Lib.hid (cell_any h r)
  unfold CellTold at HC
  clear h
  go_enter Tryz.func36, Tryz.ntmps36
  go_wp2_with fail
  refine HC.out.mono ?_
  rintro e w1 ⟨rfl, hb⟩
  have HB := Lib.hid hb
  clear hb
  go_wp2_with fail
  go_ret
  exact ⟨rfl, HB.out⟩
theorem same_true (A A' : Option Addr) (n n' c c' : Nat) (L M : List Ac) (w : World) (h1 : Al w.heap.size w A n c L) (h2 : Al w.heap.size w A' n' c' M) (e : L = M) :
    Calls Tryz.prog 24 #[.slice A n c, .slice A' n' c'] w fun e w' => e = .returned (.bool true) ∧ Below w.heap.size w w' := by
  subst e
  refine (same_any A A' n n' c c' L L w h1 h2).mono ?_
  rintro e w' ⟨rfl, hb⟩
  exact ⟨by rw [decide_eq_true (Eq.refl L)], hb⟩
/-- What a round of the law has. -/
structure Oe (w0 : World) (bF S g M cap top : Nat) (W H : Int) (s : ByteArray) (R : List Mv) (T : List Ow) (bx : Nat) (r f tt : Int) (A : Option Addr) (n c : Nat) (B4 : Nat) (A2 : Option Addr) (n2 c2 : Nat) (L2 : List Ac) (w : World) : Prop where
  lp : Lp w0 bF S g M cap top W H s R T w
  sx : Sx bx 0 r f tt A n c w
  aw : Aw w B4 (.slice A2 n2 c2) L2
  ne : bx ≠ g ∧ bx ≠ M
  tp : top ≤ B4
section
variable {w0 w w' : World} {bF S g M cap top : Nat} {W H : Int} {s : ByteArray} {R R' : List Mv} {T T' : List Ow} {bx : Nat} {r f tt : Int} {A : Option Addr} {n c : Nat} {B4 : Nat} {A2 : Option Addr} {n2 c2 : Nat} {L2 : List Ac}
theorem Oe.later (h : Oe w0 bF S g M cap top W H s R T bx r f tt A n c B4 A2 n2 c2 L2 w) (hb : Below w.heap.size w w') : Oe w0 bF S g M cap top W H s R T bx r f tt A n c B4 A2 n2 c2 L2 w' :=
  ⟨h.lp.later hb, h.sx.later hb, h.aw.later hb, h.ne, h.tp⟩
theorem Oe.fr (h : Oe w0 bF S g M cap top W H s R T bx r f tt A n c B4 A2 n2 c2 L2 w) (hf : Fr g M w w') (hs : St w' S g M cap top W H s R' T') (hi : Inv W H s R' T') : Oe w0 bF S g M cap top W H s R' T' bx r f tt A n c B4 A2 n2 c2 L2 w' :=
  ⟨h.lp.fr hf hs hi, (hf.block bx (lt_of_heap h.sx) (fun q => by have := h.ne; omega)).trans h.sx, ownsRow_same h.aw (fun q hq => hf.block q (h.aw.lt q hq).2 (fun e => by
    have h1 := (h.aw.lt q hq).1
    have h2 := h.tp
    have h3 := h.lp.st.tops
    rcases e with e | e <;> omega)), h.ne, h.tp⟩
theorem Oe.top_le (h : Oe w0 bF S g M cap top W H s R T bx r f tt A n c B4 A2 n2 c2 L2 w) : top ≤ w.heap.size := h.lp.st.tops.2.2.2
theorem Oe.ab (h : Oe w0 bF S g M cap top W H s R T bx r f tt A n c B4 A2 n2 c2 L2 w) {b : Nat} {a : Ac} (ha : Ab b a w) (hb : top ≤ b) (hf : Fr g M w w') : Ab b a w' :=
  (hf.block b (lt_of_heap ha) (fun q => by have := h.lp.st.tops; omega)).trans ha
theorem Oe.act (h : Oe w0 bF S g M cap top W H s R T bx r f tt A n c B4 A2 n2 c2 L2 w) {j : Nat} (hj : j < n2) {g2 o2 : Nat} (hA : A2 = some ⟨g2, o2, none⟩) {ax : Nat} {ay az' : Int} (ha : L2.getD j (0, 0, 0) = (ax, ay, az')) :
    w.cell? ⟨g2, o2 + j * 3, none⟩ = some (.int .u8 (ax : Int)) ∧ w.cell? ⟨g2, o2 + j * 3 + 1, none⟩ = some (.int .i64 ay) ∧ w.cell? ⟨g2, o2 + j * 3 + 2, none⟩ = some (.int .i64 az') := by
  obtain ⟨g3, o3, e, _, h1, h2, h3⟩ := h.aw.al.2.cell hj
  rw [hA] at e
  injection e with e
  injection e with e1 e2
  subst e1 e2
  rw [ha] at h1 h2 h3
  exact ⟨h1, h2, h3⟩
theorem slice_acts (A : Option Addr) (n c m : Nat) (w : World) (h : m ≤ n) (hc : n ≤ c) (hm : c ≤ 9223372036854775807) : (Instr.slice 35 (.slice A n c) (some (.int .i64 (m : Int))) none none).run Tryz.prog w = .ok (.slice (if c = m then A else A.map (·.add (m * 3))) (n - m) (c - m)) w := by
  rw [run_slice_l w 35 A n c Tryz.underlying35 .i64 (m : Int) (by omega) (by omega)]
  simp [go_sem, Tryz.sizeOf39]
theorem slice_acts2 (g o n c m : Nat) (w : World) (h : m ≤ n) (hc : n ≤ c) (hm : c ≤ 9223372036854775807) : (Instr.slice 35 (.slice (some ⟨g, o, none⟩) n c) (some (.int .i64 ((m : Nat) : Int))) none none).run Tryz.prog w = .ok (.slice (if c = m then some ⟨g, o, none⟩ else some ⟨g, o + m * 3, none⟩) (n - m) (c - m)) w := by
  rw [slice_acts _ n c m w h hc hm]
  rw [show Option.map (fun a : Addr => a.add (m * 3)) (some ⟨g, o, none⟩) = some ⟨g, o + m * 3, none⟩ by simp [Bk.add_at]]
end
set_option maxHeartbeats 16000000 in
theorem trafficOne_walk (t : ByteArray) (ht : t.size ≤ maxLen) (k : Nat) (r f tt : Int) (A : Option Addr) (n c : Nat) (L : List Ac) (w : World) (hA : Al w.heap.size w A n c L) (hk : k ≤ 255) :
    Calls Tryz.prog 7 #[.string t, stepV k r f tt A n c] w fun e w' => e = .returned (.bool true) ∧ Below w.heap.size w w' := by
  have HFL := Lib.hid (fun wx => floors11_any t ht wx)
  have hS0 := Sx.new w k r f tt A n c
  have hB0 := (Below.refl w.heap.size w).alloc (Nat.le_refl _) (.cells #[.int .u8 (k : Int), .int .i64 r, .int .i64 f, .int .i64 tt, .slice A n c] 37)
  have hz0 : (w.alloc (.cells #[.int .u8 (k : Int), .int .i64 r, .int .i64 f, .int .i64 tt, .slice A n c] 37)).heap.size = w.heap.size + 1 := by simp
  unfold stepV
  clear hA
  go_enter Tryz.func7, Tryz.ntmps7
  go_upto_region 1 with (fail)
  generalize w.alloc (.cells #[.int .u8 (k : Int), .int .i64 r, .int .i64 f, .int .i64 tt, .slice A n c] 37) = wA at *
  obtain ⟨bx, hbx⟩ : ∃ bx, bx = w.heap.size := ⟨_, rfl⟩
  rw [← hbx] at hS0 ⊢
  have HBX : Hid (w.heap.size ≤ bx ∧ bx < wA.heap.size) := Lib.hid (by omega)
  have HS0 := Lib.hid hS0
  have HB0 := Lib.hid hB0
  clear hbx hS0 hB0 hz0
  go_wp2_with fail
  refine (shown11_any _).mono ?_
  rintro e w1 ⟨rfl, hb1⟩
  have HB1 := Lib.hid (HB0.out.trans (hb1.mono HB0.out.size))
  have HS1 := Lib.hid (HS0.out.later hb1)
  have HBX1 : Hid (bx < w1.heap.size) := Lib.hid (Nat.lt_of_lt_of_le HBX.out.2 hb1.size)
  clear hb1
  go_wp2_with fail
  refine (HFL.out _).mono ?_
  rintro e w2 ⟨W, H, s, rfl, hR, hb2⟩
  have HR := Lib.hid hR
  have HB2 := Lib.hid (HB1.out.trans (hb2.mono HB1.out.size))
  have HS2 := Lib.hid ((HS1.out.later hb2).later ((Below.refl w2.heap.size w2).alloc (Nat.le_refl _) (.cells #[.int .i64 W, .int .i64 H, .string s] 25)))
  have HBX2 : Hid (bx < w2.heap.size) := Lib.hid (Nat.lt_of_lt_of_le HBX1.out hb2.size)
  have hsz : s.size ≤ maxLen := by have := rightLe hR; unfold maxLen; omega
  have HNW := Lib.hid (fun wx => new_any W H s hsz wx)
  clear hR hb2
  have HF := Lib.hid (Fb.new w2 W H s)
  obtain ⟨f0, f1, f2, fl, _⟩ := HF.out.cells
  go_wp2_with fail
  refine (HNW.out _).mono ?_
  rintro e w3 hnw
  rcases hnw with ⟨hno, _⟩ | ⟨_, S, g, M, cap, top, rfl, hst, hge, hb3⟩
  · exact absurd HR.out hno
  have HLP := Lib.hid (lp_start HB2.out HR.out hst hge hb3)
  have HS3 := Lib.hid (HS2.out.later hb3)
  have hg1 := hge.1
  have hg2 := hge.2.1
  have hg3 := hge.2.2
  have hal : (w2.alloc (.cells #[.int .i64 W, .int .i64 H, .string s] 25)).heap.size = w2.heap.size + 1 := by simp
  rw [hal] at hg1 hg2 hg3
  have HNE : Hid ((bx < S ∧ bx < g ∧ bx < M) ∧ w2.heap.size ≠ bx) := Lib.hid (by have := HBX2.out; omega)
  clear hst hge hb3 f0 f1 f2 fl HNW hg1 hg2 hg3 hal
  obtain ⟨R0, hR0⟩ : ∃ R0, R0 = docked s (pick isD (at_ s) s.size).length := ⟨_, rfl⟩
  have HR0 := Lib.hid hR0
  rw [← hR0] at HLP
  clear hR0
  generalize T0 = TT0 at *
  generalize w2.heap.size = bF at *
  have HL4 := Lib.hid (HLP.out.poke (x := 0) (.int .u8 0) HNE.out.1 HBX.out.1 HNE.out.2)
  have HS4 := Lib.hid HS3.out.zero
  have HAC := Lib.hid (acts0_any W H s hsz r f tt A n c (w3.setCell ⟨bx, 0, none⟩ (.int .u8 0)))
  unfold stepV at HAC
  obtain ⟨f0, f1, f2, fl, _⟩ := HLP.out.fb.cells
  obtain ⟨c0, c1, c2, c3, c4, cl⟩ := HS3.out.cells
  have cf : w3.frozen? ⟨bx, 0, none⟩ = false := frozen_of_row w3 bx 0 _ _ HS3.out
  go_upto_region 7 with (fail)
  clear f0 f1 f2 fl c0 c1 c2 c3 c4 cl cf HS3 HLP
  generalize w3.setCell ⟨bx, 0, none⟩ (.int .u8 0) = w4 at *
  obtain ⟨f0, f1, f2, fl, _⟩ := HL4.out.fb.cells
  obtain ⟨c0, c1, c2, c3, c4, cl⟩ := HS4.out.cells
  have c0 : w4.cell? ⟨bx, 0, none⟩ = some (.int .u8 ((0 : Nat) : Int)) := c0
  go_wp2_with fail
  refine HAC.out.mono ?_
  rintro e w5 ⟨A2, n2, c2', L2, er, rfl, hmk, haw, hb5⟩
  have HL5 := Lib.hid (HL4.out.later hb5)
  have HS5 := Lib.hid (HS4.out.later hb5)
  have HMK := Lib.hid hmk
  have HTP : Hid (top ≤ w4.heap.size) := Lib.hid HL4.out.st.tops.2.2.2
  obtain ⟨hn2, hal2⟩ := haw.al
  have hn2c := hal2.size
  have HAW := Lib.hid haw
  have HN2 := Lib.hid hn2
  have HSR := Lib.hid (start_any HL5.out.st hsz HR.out HL5.out.inv.n r A2 n2 c2' L2 hal2)
  clear hn2 hb5 haw hmk hal2 HAC f0 f1 f2 fl c0 c1 c2 c3 c4 cl
  obtain ⟨c0, c1, c2, c3, c4, cl⟩ := HS5.out.cells
  by_cases h0 : n2 = 0
  · have d0 : ((n2 : Int) == 0) = true := by rw [h0]; rfl
    clear h0
    go_wp2_with fail
    go_ret
    exact ⟨rfl, HL5.out.below⟩
  · have d0 : ((n2 : Int) == 0) = false := by rw [beq_eq_false_iff_ne]; omega
    have HSF := docked_startF W H s (pick isD (at_ s) s.size).length r L2
    rw [← HR0.out] at HSF
    rcases HSF with ⟨k1, rfl, hk1, hri, hsf⟩ | ⟨er1, her, hsf⟩
    · have HSF := Lib.hid hsf
      have HRI := Lib.hid hri
      have HON := Lib.hid (show Only (R0.set k1 (dk s (k1 : Int), L2, false)) k1 L2 by rw [HR0.out]; exact only_start hk1)
      have hnp : 0 < n2 := by omega
      clear hri hsf h0
      unfold StartTold at HSR
      rw [HSF.out] at HSR
      go_wp2_with fail
      refine HSR.out.mono ?_
      rintro e w6 ⟨rfl, hs6, hf6⟩
      have hi6 := HL5.out.inv.startF (k1 : Int) L2
      rw [HSF.out] at hi6
      have HL6 := Lib.hid (HL5.out.fr hf6 hs6 hi6)
      have HS6 : Hid (Sx bx 0 (k1 : Int) f tt A n c w6) := Lib.hid ((hf6.block bx (lt_of_heap HS5.out) (fun q => by have := HNE.out.1; omega)).trans HS5.out)
      have HAW6 : Hid (Aw w6 w4.heap.size (.slice A2 n2 c2') L2) := Lib.hid (ownsRow_same HAW.out (fun q hq => hf6.block q (HAW.out.lt q hq).2 (fun e => by
        have h1 := (HAW.out.lt q hq).1
        have h2 := HTP.out
        have h3 := HL5.out.st.tops
        rcases e with e | e <;> omega)))
      clear hs6 hf6 hi6 HSR c0 c1 c2 c3 c4 cl
      have HOE6 := Lib.hid (Oe.mk HL6.out HS6.out HAW6.out ⟨by have := HNE.out.1; omega, by have := HNE.out.1; omega⟩ HTP.out)
      clear HS6 HAW6 HL6 HL5 HS5 HAW HL4 HS4
      go_wp2_with fail
      go_loopw [62] (fun iv wr => ∃ (i : Nat) (R : List Mv) (T : List Ow), i ≤ n2 ∧ iv = .int .i64 (i : Int) ∧ Hid (Oe w bF S g M cap top W H s R T bx (k1 : Int) f tt A n c w4.heap.size A2 n2 c2' L2 wr ∧ Only R k1 (L2.drop i))) (fun iv _ => n2 - (intOf iv).toNat)
      case atStart => exact ⟨0, _, _, by omega, rfl, Lib.hid ⟨HOE6.out, HON.out⟩⟩
      case round =>
        rename World => wr
        obtain ⟨i, R, T, hi, rfl, HI⟩ := hrel
        by_cases hlt : i < n2
        · obtain ⟨g2, o2, rfl, _, _⟩ := HI.out.1.aw.al.2.cell hlt
          have hiI : (i : Int) < (n2 : Int) := by omega
          have HIN : Hid (i < n2) := Lib.hid hlt
          have HIN1 : Hid (i + 1 ≤ n2) := Lib.hid hlt
          have hdrop : L2.drop i = L2.getD i (0, 0, 0) :: L2.drop (i + 1) := by
            have hl : i < L2.length := by have := HN2.out; omega
            rw [List.drop_eq_getElem_cons hl]
            simp [List.getD, hl]
          have hon := HI.out.2
          rw [hdrop] at hon
          obtain ⟨ac, hac⟩ : ∃ ac, ac = L2.getD i (0, 0, 0) := ⟨_, rfl⟩
          rw [← hac] at hon
          obtain ⟨R1, T1, R2, T2, g1, g2', g3, g4, g5, i1, i2, ho2⟩ := alone_step HI.out.1.lp.inv hon HRI.out
          have HG1 := Lib.hid (grant_any HI.out.1.lp.st HI.out.1.lp.inv (k1 : Int))
          rw [g1] at HG1
          obtain ⟨ax, ay, az'⟩ := ac
          have HAT : Hid (L2.getD i (0, 0, 0) = (ax, ay, az')) := Lib.hid hac.symm
          have HG2E := Lib.hid g2'
          have HSI := Lib.hid g3
          have HDI := Lib.hid g4
          have HDN := Lib.hid g5
          have HI1 := Lib.hid i1
          have HI2 := Lib.hid i2
          have HO2 := Lib.hid ho2
          clear hdrop hon hac g1 g2' g3 g4 g5 i1 i2 ho2
          obtain ⟨c0, c1, c2, c3, c4, cl⟩ := HI.out.1.sx.cells
          go_wp2_with fail
          refine HG1.out.mono ?_
          rintro e w7 ⟨rfl, hs7, hf7⟩
          dsimp only at hs7
          dsimp only [actV]
          have hBa := (Below.refl w7.heap.size w7).alloc (Nat.le_refl _) (.cells #[.int .u8 (ax : Int), .int .i64 ay, .int .i64 az'] 39)
          have hO7 := HI.out.1.fr hf7 hs7 HI1.out
          have HO7 := Lib.hid (hO7.later hBa)
          have HTB : Hid (top ≤ w7.heap.size) := Lib.hid hO7.top_le
          have HA7 : Hid (Ab w7.heap.size (ax, ay, az') (w7.alloc (.cells #[.int .u8 (ax : Int), .int .i64 ay, .int .i64 az'] 39))) := Lib.hid (heap_alloc_new w7 _)
          clear hs7 hf7 hO7 hBa HG1 c0 c1 c2 c3 c4 cl
          go_upto_region 14 with (fail)
          generalize w7.alloc (.cells #[.int .u8 (ax : Int), .int .i64 ay, .int .i64 az'] 39) = w7a at *
          generalize w7.heap.size = ba at *
          have HG2 := Lib.hid (grant_any HO7.out.lp.st HI1.out (k1 : Int))
          rw [HG2E.out] at HG2
          obtain ⟨c0, c1, c2, c3, c4, cl⟩ := HO7.out.sx.cells
          go_wp2_with fail
          refine HG2.out.mono ?_
          rintro e w7b ⟨rfl, hs7, hf7⟩
          dsimp only at hs7
          dsimp only [actV]
          have hBa := (Below.refl w7b.heap.size w7b).alloc (Nat.le_refl _) (.cells #[.int .u8 0, .int .i64 0, .int .i64 0] 39)
          have HO8 := Lib.hid ((HO7.out.fr hf7 hs7 HI1.out).later hBa)
          have HA8 := Lib.hid ((HO7.out.ab HA7.out HTB.out hf7).later hBa)
          clear hs7 hf7 hBa HG2 c0 c1 c2 c3 c4 cl
          go_upto_region 15 with (fail)
          generalize w7b.alloc (.cells #[.int .u8 0, .int .i64 0, .int .i64 0] 39) = w8 at *
          obtain ⟨ua0, ua1, ua2, _⟩ := HA8.out.cells
          obtain ⟨ub0, ub1, ub2⟩ := HO8.out.act HIN.out rfl HAT.out
          obtain ⟨_, uc1, _⟩ := HO8.out.sx.cells
          have HSA := Lib.hid (fun wx (hb : Below w8.heap.size w8 wx) => start_any (HO8.out.later hb).lp.st hsz HR.out HI1.out.n (k1 : Int) (some ⟨g2, o2, none⟩) n2 c2' L2 (HO8.out.later hb).aw.al.2)
          refine wp_region_held_drew (S := fun w' => (w'.cell? ⟨ba, 0, none⟩ = some (.int .u8 (ax : Int)) ∧ w'.cell? ⟨ba, 1, none⟩ = some (.int .i64 ay) ∧ w'.cell? ⟨ba, 2, none⟩ = some (.int .i64 az')) ∧ (w'.cell? ⟨g2, o2 + i * 3, none⟩ = some (.int .u8 (ax : Int)) ∧ w'.cell? ⟨g2, o2 + i * 3 + 1, none⟩ = some (.int .i64 ay) ∧ w'.cell? ⟨g2, o2 + i * 3 + 2, none⟩ = some (.int .i64 az')) ∧ w'.cell? ⟨bx, 1, none⟩ = some (.int .i64 (k1 : Int))) (by kernel_rfl) (by simp; exact ⟨⟨ua0, ua1, ua2⟩, ⟨ub0, ub1, ub2⟩, uc1⟩) (fun hS0 => ?_)
          (refine wpAnyH_take (i := 0) (oi := ⟨some 79, _, _, _, _, _⟩) (v := .agg #[.int .u8 (ax : Int), .int .i64 ay, .int .i64 az']) rfl (by kernel_rfl) (by kernel_rfl) (by kernel_rfl) (fun _ _ _ h => h) (Or.inl ⟨by rfl, ?_⟩) (by assumption) ?_; (intro w hSw; (try dsimp only at hSw); go_simp); (try simp only [Act.put, List.setIfInBounds_toArray, List.set_cons_zero, List.set_cons_succ]))
          (refine wpAnyH_take (i := 1) (oi := ⟨some 80, _, _, _, _, _⟩) (v := .slice (some ⟨g2, o2, none⟩) n2 c2') rfl (by kernel_rfl) (by kernel_rfl) (by kernel_rfl) (fun _ _ _ h => h) (Or.inl ⟨by rfl, ?_⟩) (by assumption) ?_; (intro w hSw; (try dsimp only at hSw); go_simp); (try simp only [Act.put, List.setIfInBounds_toArray, List.set_cons_zero, List.set_cons_succ]))
          (refine wpAnyH_take (i := 2) (oi := ⟨some 81, _, _, _, _, _⟩) (v := .int .i64 (i : Int)) rfl (by kernel_rfl) (by kernel_rfl) (by kernel_rfl) (fun _ _ _ h => h) (Or.inl ⟨by rfl, ?_⟩) (by assumption) ?_; (intro w hSw; (try dsimp only at hSw); go_simp); (try simp only [Act.put, List.setIfInBounds_toArray, List.set_cons_zero, List.set_cons_succ]))
          (refine wpAnyH_take (i := 3) (oi := ⟨some 82, _, _, _, _, _⟩) (v := .pointer (some ⟨g2, o2 + i * 3, none⟩)) rfl (by kernel_rfl) (by kernel_rfl) (by kernel_rfl) (fun _ _ _ h => h) (Or.inl ⟨by rfl, ?_⟩) (by assumption) ?_; (intro w hSw; (try dsimp only at hSw); go_simp); (try simp only [Act.put, List.setIfInBounds_toArray, List.set_cons_zero, List.set_cons_succ]))
          (refine wpAnyH_take (i := 4) (oi := ⟨some 83, _, _, _, _, _⟩) (v := .agg #[.int .u8 (ax : Int), .int .i64 ay, .int .i64 az']) rfl (by kernel_rfl) (by kernel_rfl) (by kernel_rfl) (fun _ _ _ h => h) (Or.inl ⟨by rfl, ?_⟩) (by assumption) ?_; (intro w hSw; (try dsimp only at hSw); go_simp); (try simp only [Act.put, List.setIfInBounds_toArray, List.set_cons_zero, List.set_cons_succ]))
          (refine wpAnyH_take (i := 5) (oi := ⟨some 84, _, _, _, _, _⟩) (v := .bool false) rfl (by kernel_rfl) (by kernel_rfl) (by kernel_rfl) (fun _ _ _ h => h) (Or.inl ⟨by rfl, ?_⟩) (by assumption) ?_; (intro w hSw; (try dsimp only at hSw); go_simp); (try simp only [Act.put, List.setIfInBounds_toArray, List.set_cons_zero, List.set_cons_succ]))
          (refine wpAnyH_take (i := 6) (oi := ⟨some 85, _, _, _, _, _⟩) (v := .bool false) rfl (by kernel_rfl) (by kernel_rfl) (by kernel_rfl) (fun _ _ _ h => h) (Or.inl ⟨by rfl, ?_⟩) (by assumption) ?_; (intro w hSw; (try dsimp only at hSw); go_simp); (try simp only [Act.put, List.setIfInBounds_toArray, List.set_cons_zero, List.set_cons_succ]))
          (refine wpAnyH_take (i := 7) (oi := ⟨some 86, _, _, _, _, _⟩) (v := .int .i64 0) rfl (by kernel_rfl) (by kernel_rfl) (by kernel_rfl) (fun _ _ _ h => h) (Or.inl ⟨by rfl, ?_⟩) (by assumption) ?_; (intro w hSw; (try dsimp only at hSw); go_simp); (try simp only [Act.put, List.setIfInBounds_toArray, List.set_cons_zero, List.set_cons_succ]))
          (refine wpAnyH_take (i := 8) (oi := ⟨some 87, _, _, _, _, _⟩) (v := .bool false) rfl (by kernel_rfl) (by kernel_rfl) (by kernel_rfl) (fun _ _ _ h => h) (Or.inl ⟨by rfl, ?_⟩) (by assumption) ?_; (intro w hSw; (try dsimp only at hSw); go_simp); (try simp only [Act.put, List.setIfInBounds_toArray, List.set_cons_zero, List.set_cons_succ]))
          (refine wpAnyH_take (i := 9) (oi := ⟨some 88, _, _, _, _, _⟩) (v := .bool false) rfl (by kernel_rfl) (by kernel_rfl) (by kernel_rfl) (fun _ _ _ h => h) (Or.inl ⟨by rfl, ?_⟩) (by assumption) ?_; (intro w hSw; (try dsimp only at hSw); go_simp); (try simp only [Act.put, List.setIfInBounds_toArray, List.set_cons_zero, List.set_cons_succ]))
          (refine wpAnyH_take (i := 10) (oi := ⟨some 89, _, _, _, _, _⟩) (v := .bool false) rfl (by kernel_rfl) (by kernel_rfl) (by kernel_rfl) (fun _ _ _ h => h) (Or.inl ⟨by rfl, ?_⟩) (by assumption) ?_; (intro w hSw; (try dsimp only at hSw); go_simp); (try simp only [Act.put, List.setIfInBounds_toArray, List.set_cons_zero, List.set_cons_succ]))
          (refine wpAnyH_take (i := 11) (oi := ⟨some 90, _, _, _, _, _⟩) (v := .int .i64 111) rfl (by kernel_rfl) (by kernel_rfl) (by kernel_rfl) (fun _ _ _ h => h) (Or.inl ⟨by rfl, ?_⟩) (by assumption) ?_; (intro w hSw; (try dsimp only at hSw); go_simp); (try simp only [Act.put, List.setIfInBounds_toArray, List.set_cons_zero, List.set_cons_succ]))
          (refine wpAnyH_take (i := 12) (oi := ⟨some 91, _, _, _, _, _⟩) (v := .bool false) rfl (by kernel_rfl) (by kernel_rfl) (by kernel_rfl) (fun _ _ _ h => h) (Or.inl ⟨by rfl, ?_⟩) (by assumption) ?_; (intro w hSw; (try dsimp only at hSw); go_simp); (try simp only [Act.put, List.setIfInBounds_toArray, List.set_cons_zero, List.set_cons_succ]))
          (refine wpAnyH_take (i := 13) (oi := ⟨some 92, _, _, _, _, _⟩) (v := .bool false) rfl (by kernel_rfl) (by kernel_rfl) (by kernel_rfl) (fun _ _ _ h => h) (Or.inl ⟨by rfl, ?_⟩) (by assumption) ?_; (intro w hSw; (try dsimp only at hSw); go_simp); (try simp only [Act.put, List.setIfInBounds_toArray, List.set_cons_zero, List.set_cons_succ]))
          (refine wpAnyH_take (i := 14) (oi := ⟨some 93, _, _, _, _, _⟩) (v := .bool false) rfl (by kernel_rfl) (by kernel_rfl) (by kernel_rfl) (fun _ _ _ h => h) (Or.inl ⟨by rfl, ?_⟩) (by assumption) ?_; (intro w hSw; (try dsimp only at hSw); go_simp); (try simp only [Act.put, List.setIfInBounds_toArray, List.set_cons_zero, List.set_cons_succ]))
          (refine wpAnyH_take (i := 15) (oi := ⟨some 94, _, _, _, _, _⟩) (v := .pointer (some ⟨S, 0, none⟩)) rfl (by kernel_rfl) (by kernel_rfl) (by kernel_rfl) (fun _ _ _ h => h) (Or.inl ⟨by rfl, ?_⟩) (by assumption) ?_; (intro w hSw; (try dsimp only at hSw); go_simp); (try simp only [Act.put, List.setIfInBounds_toArray, List.set_cons_zero, List.set_cons_succ]))
          (refine wpAnyH_take (i := 16) (oi := ⟨some 95, _, _, _, _, _⟩) (v := .pointer (some ⟨bx, 1, none⟩)) rfl (by kernel_rfl) (by kernel_rfl) (by kernel_rfl) (fun _ _ _ h => h) (Or.inl ⟨by rfl, ?_⟩) (by assumption) ?_; (intro w hSw; (try dsimp only at hSw); go_simp); (try simp only [Act.put, List.setIfInBounds_toArray, List.set_cons_zero, List.set_cons_succ]))
          (refine wpAnyH_take (i := 17) (oi := ⟨some 96, _, _, _, _, _⟩) (v := .int .i64 (k1 : Int)) rfl (by kernel_rfl) (by kernel_rfl) (by kernel_rfl) (fun _ _ _ h => h) (Or.inl ⟨by rfl, ?_⟩) (by assumption) ?_; (intro w hSw; (try dsimp only at hSw); go_simp); (try simp only [Act.put, List.setIfInBounds_toArray, List.set_cons_zero, List.set_cons_succ]))
          (refine wpAnyH_take (i := 18) (oi := ⟨some 97, _, _, _, _, _⟩) (v := .slice (some ⟨g2, o2, none⟩) n2 c2') rfl (by kernel_rfl) (by kernel_rfl) (by kernel_rfl) (fun _ _ _ h => h) (Or.inl ⟨by rfl, ?_⟩) (by assumption) ?_; (intro w hSw; (try dsimp only at hSw); go_simp); (try simp only [Act.put, List.setIfInBounds_toArray, List.set_cons_zero, List.set_cons_succ]))
          refine wpAnyH_ready (rs := [19]) (by kernel_rfl) (by simp) ?_
          refine AllReadyH.cons (o := ⟨some 98, _, _, _, _, _⟩) rfl (fun K hK => ?_) AllReadyH.nil
          go_simp
          refine (HSA.out _ (Below.refl _ _).drew).mono ?_
          rintro e w9 ⟨rfl, hs9, hf9⟩
          have HF9 : Hid (Fr g M w8 w9) := Lib.hid ((Fr.of (Below.refl _ w8).drew).trans hf9)
          rw [HSI.out] at hs9
          have HO9 := Lib.hid (HO8.out.fr HF9.out hs9 HI1.out)
          have HA9 := Lib.hid (HO8.out.ab HA8.out HTB.out HF9.out)
          clear hs9 hf9
          obtain ⟨xa0, xa1, xa2, _⟩ := HA9.out.cells
          obtain ⟨xb0, xb1, xb2⟩ := HO9.out.act HIN.out rfl HAT.out
          obtain ⟨_, xc1, _⟩ := HO9.out.sx.cells
          have HD9 := Lib.hid (done_any HO9.out.lp.st HI1.out (k1 : Int))
          rw [HDI.out] at HD9
          rw [HSI.out]
          refine hK.out _ _ ⟨⟨xa0, xa1, xa2⟩, ⟨xb0, xb1, xb2⟩, xc1⟩ (fun hS98 => ?_)
          clear hK
          (try simp only [Act.put, List.setIfInBounds_toArray, List.set_cons_zero, List.set_cons_succ])
          (refine wpAnyH_take (i := 20) (oi := ⟨some 99, _, _, _, _, _⟩) (v := .bool false) rfl (by kernel_rfl) (by kernel_rfl) (by kernel_rfl) (fun _ _ _ h => h) (Or.inl ⟨by rfl, ?_⟩) (by assumption) ?_; (intro w hSw; (try dsimp only at hSw); go_simp); (try simp only [Act.put, List.setIfInBounds_toArray, List.set_cons_zero, List.set_cons_succ]))
          (refine wpAnyH_take (i := 21) (oi := ⟨some 100, _, _, _, _, _⟩) (v := .bool false) rfl (by kernel_rfl) (by kernel_rfl) (by kernel_rfl) (fun _ _ _ h => h) (Or.inl ⟨by rfl, ?_⟩) (by assumption) ?_; (intro w hSw; (try dsimp only at hSw); go_simp); (try simp only [Act.put, List.setIfInBounds_toArray, List.set_cons_zero, List.set_cons_succ]))
          (refine wpAnyH_take (i := 22) (oi := ⟨some 101, _, _, _, _, _⟩) (v := .bool false) rfl (by kernel_rfl) (by kernel_rfl) (by kernel_rfl) (fun _ _ _ h => h) (Or.inl ⟨by rfl, ?_⟩) (by assumption) ?_; (intro w hSw; (try dsimp only at hSw); go_simp); (try simp only [Act.put, List.setIfInBounds_toArray, List.set_cons_zero, List.set_cons_succ]))
          (refine wpAnyH_take (i := 23) (oi := ⟨some 102, _, _, _, _, _⟩) (v := .pointer (some ⟨S, 0, none⟩)) rfl (by kernel_rfl) (by kernel_rfl) (by kernel_rfl) (fun _ _ _ h => h) (Or.inl ⟨by rfl, ?_⟩) (by assumption) ?_; (intro w hSw; (try dsimp only at hSw); go_simp); (try simp only [Act.put, List.setIfInBounds_toArray, List.set_cons_zero, List.set_cons_succ]))
          (refine wpAnyH_take (i := 24) (oi := ⟨some 103, _, _, _, _, _⟩) (v := .pointer (some ⟨bx, 1, none⟩)) rfl (by kernel_rfl) (by kernel_rfl) (by kernel_rfl) (fun _ _ _ h => h) (Or.inl ⟨by rfl, ?_⟩) (by assumption) ?_; (intro w hSw; (try dsimp only at hSw); go_simp); (try simp only [Act.put, List.setIfInBounds_toArray, List.set_cons_zero, List.set_cons_succ]))
          (refine wpAnyH_take (i := 25) (oi := ⟨some 104, _, _, _, _, _⟩) (v := .int .i64 (k1 : Int)) rfl (by kernel_rfl) (by kernel_rfl) (by kernel_rfl) (fun _ _ _ h => h) (Or.inl ⟨by rfl, ?_⟩) (by assumption) ?_; (intro w hSw; (try dsimp only at hSw); go_simp); (try simp only [Act.put, List.setIfInBounds_toArray, List.set_cons_zero, List.set_cons_succ]))
          refine wpAnyH_ready (rs := [26]) (by kernel_rfl) (by simp) ?_
          refine AllReadyH.cons (o := ⟨some 105, _, _, _, _, _⟩) rfl (fun K hK => ?_) AllReadyH.nil
          go_simp
          refine HD9.out.mono ?_
          rintro e w10 ⟨rfl, hs10, hf10⟩
          have HO10 := Lib.hid (HO9.out.fr hf10 hs10 HI2.out)
          have HA10 := Lib.hid (HO9.out.ab HA9.out HTB.out hf10)
          clear hs10 hf10
          obtain ⟨ya0, ya1, ya2, _⟩ := HA10.out.cells
          obtain ⟨yb0, yb1, yb2⟩ := HO10.out.act HIN.out rfl HAT.out
          obtain ⟨_, yc1, _⟩ := HO10.out.sx.cells
          have HD10 := Lib.hid (done_any HO10.out.lp.st HI2.out (k1 : Int))
          rw [HDN.out] at HD10
          refine hK.out _ _ ⟨⟨ya0, ya1, ya2⟩, ⟨yb0, yb1, yb2⟩, yc1⟩ (fun hS105 => ?_)
          clear hK
          (try simp only [Act.put, List.setIfInBounds_toArray, List.set_cons_zero, List.set_cons_succ])
          (refine wpAnyH_take (i := 27) (oi := ⟨some 106, _, _, _, _, _⟩) (v := .bool false) rfl (by kernel_rfl) (by kernel_rfl) (by kernel_rfl) (fun _ _ _ h => h) (Or.inl ⟨by rfl, ?_⟩) (by assumption) ?_; (intro w hSw; (try dsimp only at hSw); go_simp); (try simp only [Act.put, List.setIfInBounds_toArray, List.set_cons_zero, List.set_cons_succ]))
          (refine wpAnyH_take (i := 28) (oi := ⟨some 107, _, _, _, _, _⟩) (v := .bool false) rfl (by kernel_rfl) (by kernel_rfl) (by kernel_rfl) (fun _ _ _ h => h) (Or.inl ⟨by rfl, ?_⟩) (by assumption) ?_; (intro w hSw; (try dsimp only at hSw); go_simp); (try simp only [Act.put, List.setIfInBounds_toArray, List.set_cons_zero, List.set_cons_succ]))
          (refine wpAnyH_take (i := 29) (oi := ⟨some 108, _, _, _, _, _⟩) (v := .bool false) rfl (by kernel_rfl) (by kernel_rfl) (by kernel_rfl) (fun _ _ _ h => h) (Or.inl ⟨by rfl, ?_⟩) (by assumption) ?_; (intro w hSw; (try dsimp only at hSw); go_simp); (try simp only [Act.put, List.setIfInBounds_toArray, List.set_cons_zero, List.set_cons_succ]))
          (refine wpAnyH_take (i := 30) (oi := ⟨some 109, _, _, _, _, _⟩) (v := .pointer (some ⟨S, 0, none⟩)) rfl (by kernel_rfl) (by kernel_rfl) (by kernel_rfl) (fun _ _ _ h => h) (Or.inl ⟨by rfl, ?_⟩) (by assumption) ?_; (intro w hSw; (try dsimp only at hSw); go_simp); (try simp only [Act.put, List.setIfInBounds_toArray, List.set_cons_zero, List.set_cons_succ]))
          (refine wpAnyH_take (i := 31) (oi := ⟨some 110, _, _, _, _, _⟩) (v := .pointer (some ⟨bx, 1, none⟩)) rfl (by kernel_rfl) (by kernel_rfl) (by kernel_rfl) (fun _ _ _ h => h) (Or.inl ⟨by rfl, ?_⟩) (by assumption) ?_; (intro w hSw; (try dsimp only at hSw); go_simp); (try simp only [Act.put, List.setIfInBounds_toArray, List.set_cons_zero, List.set_cons_succ]))
          (refine wpAnyH_take (i := 32) (oi := ⟨some 111, _, _, _, _, _⟩) (v := .int .i64 (k1 : Int)) rfl (by kernel_rfl) (by kernel_rfl) (by kernel_rfl) (fun _ _ _ h => h) (Or.inl ⟨by rfl, ?_⟩) (by assumption) ?_; (intro w hSw; (try dsimp only at hSw); go_simp); (try simp only [Act.put, List.setIfInBounds_toArray, List.set_cons_zero, List.set_cons_succ]))
          refine wpAnyH_ready (rs := [33]) (by kernel_rfl) (by simp) ?_
          refine AllReadyH.cons (o := ⟨some 112, _, _, _, _, _⟩) rfl (fun K hK => ?_) AllReadyH.nil
          go_simp
          refine HD10.out.mono ?_
          rintro e w11 ⟨rfl, hs11, hf11⟩
          have HO11 := Lib.hid (HO10.out.fr hf11 hs11 HI2.out)
          have HA11 := Lib.hid (HO10.out.ab HA10.out HTB.out hf11)
          clear hs11 hf11
          obtain ⟨za0, za1, za2, _⟩ := HA11.out.cells
          obtain ⟨zb0, zb1, zb2⟩ := HO11.out.act HIN.out rfl HAT.out
          obtain ⟨_, zc1, _⟩ := HO11.out.sx.cells
          refine hK.out _ _ ⟨⟨za0, za1, za2⟩, ⟨zb0, zb1, zb2⟩, zc1⟩ (fun hS112 => ?_)
          clear hK
          (try simp only [Act.put, List.setIfInBounds_toArray, List.set_cons_zero, List.set_cons_succ])
          (refine wpAnyH_take (i := 34) (oi := ⟨some 113, _, _, _, _, _⟩) (v := .bool false) rfl (by kernel_rfl) (by kernel_rfl) (by kernel_rfl) (fun _ _ _ h => h) (Or.inl ⟨by rfl, ?_⟩) (by assumption) ?_; (intro w hSw; (try dsimp only at hSw); go_simp); (try simp only [Act.put, List.setIfInBounds_toArray, List.set_cons_zero, List.set_cons_succ]))
          (refine wpAnyH_take (i := 35) (oi := ⟨some 114, _, _, _, _, _⟩) (v := .bool false) rfl (by kernel_rfl) (by kernel_rfl) (by kernel_rfl) (fun _ _ _ h => h) (Or.inl ⟨by rfl, ?_⟩) (by assumption) ?_; (intro w hSw; (try dsimp only at hSw); go_simp); (try simp only [Act.put, List.setIfInBounds_toArray, List.set_cons_zero, List.set_cons_succ]))
          refine wpAnyH_done (by kernel_rfl) ?_ _
          clear ua0 ua1 ua2 ub0 ub1 ub2 uc1 xa0 xa1 xa2 xb0 xb1 xb2 xc1 ya0 ya1 ya2 yb0 yb1 yb2 yc1 za0 za1 za2 zb0 zb1 zb2 zc1
          go_upto_region 17 with (fail)
          obtain ⟨vf0, vf1, vf2, _⟩ := HO11.out.lp.fb.cells
          obtain ⟨_, vc1, _⟩ := HO11.out.sx.cells
          have HLF := Lib.hid (fun wx (hb : Below w11.heap.size w11 wx) => left_any (HO11.out.later hb).lp.st HI2.out.lens (k1 : Int))
          have HLE : Hid (leftF R2 (k1 : Int) = L2.drop (i + 1)) := Lib.hid (by
            obtain ⟨h1, ⟨c', h2⟩, _⟩ := HO2.out
            unfold leftF
            rw [if_pos ⟨by omega, by omega⟩, Int.toNat_natCast, h2])
          have HRR : Hid (RightIs W H s (k1 : Int) (cellF R2 (k1 : Int)).1 (L2.drop (i + 1))) := Lib.hid (by
            obtain ⟨h1, ⟨c', h2⟩, _⟩ := HO2.out
            have h3 := HI2.out.each k1 h1
            rw [h2] at h3
            rw [cellF_in h1, h2]
            exact h3)
          have HCN : Hid (n2 ≤ c2') := Lib.hid hn2c.1
          have hwr : IntKind.i64.wrap ((i : Int) + 1) = (i : Int) + 1 := IntWalk.i64_in _ (by have := hn2c.2; have := hn2c.1; omega)
          obtain ⟨A9, hA9⟩ : ∃ A9 : Option Addr, (if c2' = i + 1 then some ⟨g2, o2, none⟩ else some ⟨g2, o2 + (i + 1) * 3, none⟩) = A9 := ⟨_, rfl⟩
          have HA9E := Lib.hid hA9
          have hsl : ∀ wx, (Instr.slice 35 (.slice (some ⟨g2, o2, none⟩) n2 c2') (some (.int .i64 ((i : Int) + 1))) none none).run Tryz.prog wx = .ok (.slice A9 (n2 - (i + 1)) (c2' - (i + 1))) wx := fun wx => by
            rw [← hA9]
            exact slice_acts2 g2 o2 n2 c2' (i + 1) wx hlt hn2c.1 hn2c.2
          clear hA9
          refine wp_region_held_drew (S := fun w' => (w'.cell? ⟨bF, 0, none⟩ = some (.int .i64 W) ∧ w'.cell? ⟨bF, 1, none⟩ = some (.int .i64 H) ∧ w'.cell? ⟨bF, 2, none⟩ = some (.string s)) ∧ w'.cell? ⟨bx, 1, none⟩ = some (.int .i64 (k1 : Int))) (by kernel_rfl) (by simp; exact ⟨⟨vf0, vf1, vf2⟩, vc1⟩) (fun hS0 => ?_)
          (refine wpAnyH_take (i := 0) (oi := ⟨some 115, _, _, _, _, _⟩) (v := .pointer (some ⟨S, 0, none⟩)) rfl (by kernel_rfl) (by kernel_rfl) (by kernel_rfl) (fun _ _ _ h => h) (Or.inl ⟨by rfl, ?_⟩) (by assumption) ?_; (intro w hSw; (try dsimp only at hSw); go_simp); (try simp only [Act.put, List.setIfInBounds_toArray, List.set_cons_zero, List.set_cons_succ]))
          (refine wpAnyH_take (i := 1) (oi := ⟨some 116, _, _, _, _, _⟩) (v := .pointer (some ⟨bx, 1, none⟩)) rfl (by kernel_rfl) (by kernel_rfl) (by kernel_rfl) (fun _ _ _ h => h) (Or.inl ⟨by rfl, ?_⟩) (by assumption) ?_; (intro w hSw; (try dsimp only at hSw); go_simp); (try simp only [Act.put, List.setIfInBounds_toArray, List.set_cons_zero, List.set_cons_succ]))
          (refine wpAnyH_take (i := 2) (oi := ⟨some 117, _, _, _, _, _⟩) (v := .int .i64 (k1 : Int)) rfl (by kernel_rfl) (by kernel_rfl) (by kernel_rfl) (fun _ _ _ h => h) (Or.inl ⟨by rfl, ?_⟩) (by assumption) ?_; (intro w hSw; (try dsimp only at hSw); go_simp); (try simp only [Act.put, List.setIfInBounds_toArray, List.set_cons_zero, List.set_cons_succ]))
          (refine wpAnyH_take (i := 4) (oi := ⟨some 119, _, _, _, _, _⟩) (v := .slice (some ⟨g2, o2, none⟩) n2 c2') rfl (by kernel_rfl) (by kernel_rfl) (by kernel_rfl) (fun _ _ _ h => h) (Or.inl ⟨by rfl, ?_⟩) (by assumption) ?_; (intro w hSw; (try dsimp only at hSw); go_simp); (try simp only [Act.put, List.setIfInBounds_toArray, List.set_cons_zero, List.set_cons_succ]))
          (refine wpAnyH_take (i := 5) (oi := ⟨some 120, _, _, _, _, _⟩) (v := .int .i64 (i : Int)) rfl (by kernel_rfl) (by kernel_rfl) (by kernel_rfl) (fun _ _ _ h => h) (Or.inl ⟨by rfl, ?_⟩) (by assumption) ?_; (intro w hSw; (try dsimp only at hSw); go_simp); (try simp only [Act.put, List.setIfInBounds_toArray, List.set_cons_zero, List.set_cons_succ]))
          (refine wpAnyH_take (i := 6) (oi := ⟨some 121, _, _, _, _, _⟩) (v := .int .i64 ((i : Int) + 1)) rfl (by kernel_rfl) (by kernel_rfl) (by kernel_rfl) (fun _ _ _ h => h) (Or.inl ⟨by rfl, ?_⟩) (by assumption) ?_; (intro w hSw; (try dsimp only at hSw); go_simp); (try simp only [Act.put, List.setIfInBounds_toArray, List.set_cons_zero, List.set_cons_succ]))
          (refine wpAnyH_take (i := 7) (oi := ⟨some 122, _, _, _, _, _⟩) (v := (.slice A9 (n2 - (i + 1)) (c2' - (i + 1)))) rfl (by kernel_rfl) (by kernel_rfl) (by kernel_rfl) (fun _ _ _ h => h) (Or.inl ⟨by rfl, ?_⟩) (by assumption) ?_; (intro w hSw; (try dsimp only at hSw); go_simp); (try simp only [Act.put, List.setIfInBounds_toArray, List.set_cons_zero, List.set_cons_succ]))
          refine wpAnyH_ready (rs := [3]) (by kernel_rfl) (by simp) ?_
          refine AllReadyH.cons (o := ⟨some 118, _, _, _, _, _⟩) rfl (fun K hK => ?_) AllReadyH.nil
          go_simp
          refine (HLF.out _ (Below.refl _ _).drew).mono ?_
          rintro e w12 ⟨A5, n5, c5, rfl, -, how5, hb12⟩
          have HO12 := Lib.hid (HO11.out.later ((Below.refl _ w11).drew.trans hb12))
          have HOW5 := Lib.hid how5
          clear how5 hb12
          obtain ⟨pf0, pf1, pf2, _⟩ := HO12.out.lp.fb.cells
          obtain ⟨_, pc1, _⟩ := HO12.out.sx.cells
          have HTL := Lib.hid (HO12.out.aw.al.2.tail (m := i + 1) HIN1.out (if c2' = i + 1 then some ⟨g2, o2, none⟩ else some ⟨g2, o2 + (i + 1) * 3, none⟩) (by split <;> simp) (fun hx => by rw [if_neg (by have := HCN.out; omega)]))
          rw [HA9E.out] at HTL
          refine hK.out _ _ ⟨⟨pf0, pf1, pf2⟩, pc1⟩ (fun hS118 => ?_)
          clear hK
          (try simp only [Act.put, List.setIfInBounds_toArray, List.set_cons_zero, List.set_cons_succ])
          refine wpAnyH_ready (rs := [8]) (by kernel_rfl) (by simp) ?_
          refine AllReadyH.cons (o := ⟨some 123, _, _, _, _, _⟩) rfl (fun K hK => ?_) AllReadyH.nil
          go_simp
          refine (same_true A5 A9 n5 (n2 - (i + 1)) c5 (c2' - (i + 1)) (leftF R2 (k1 : Int)) (L2.drop (i + 1)) w12 HOW5.out.al.2 HTL.out HLE.out).mono ?_
          rintro e w13 ⟨rfl, hb13⟩
          have HO13 := Lib.hid (HO12.out.later hb13)
          have HTL13 := Lib.hid (HTL.out.later hb13)
          clear hb13
          obtain ⟨qf0, qf1, qf2, _⟩ := HO13.out.lp.fb.cells
          obtain ⟨_, qc1, _⟩ := HO13.out.sx.cells
          refine hK.out _ _ ⟨⟨qf0, qf1, qf2⟩, qc1⟩ (fun hS123 => ?_)
          clear hK
          (try simp only [Act.put, List.setIfInBounds_toArray, List.set_cons_zero, List.set_cons_succ])
          (refine wpAnyH_take (i := 9) (oi := ⟨some 124, _, _, _, _, _⟩) (v := .bool false) rfl (by kernel_rfl) (by kernel_rfl) (by kernel_rfl) (fun _ _ _ h => h) (Or.inl ⟨by rfl, ?_⟩) (by assumption) ?_; (intro w hSw; (try dsimp only at hSw); go_simp); (try simp only [Act.put, List.setIfInBounds_toArray, List.set_cons_zero, List.set_cons_succ]))
          (refine wpAnyH_take (i := 10) (oi := ⟨some 125, _, _, _, _, _⟩) (v := .bool false) rfl (by kernel_rfl) (by kernel_rfl) (by kernel_rfl) (fun _ _ _ h => h) (Or.inl ⟨by rfl, ?_⟩) (by assumption) ?_; (intro w hSw; (try dsimp only at hSw); go_simp); (try simp only [Act.put, List.setIfInBounds_toArray, List.set_cons_zero, List.set_cons_succ]))
          (refine wpAnyH_take (i := 11) (oi := ⟨some 126, _, _, _, _, _⟩) (v := .agg #[.int .i64 W, .int .i64 H, .string s]) rfl (by kernel_rfl) (by kernel_rfl) (by kernel_rfl) (fun _ _ _ h => h) (Or.inl ⟨by rfl, ?_⟩) (by assumption) ?_; (intro w hSw; (try dsimp only at hSw); go_simp); (try simp only [Act.put, List.setIfInBounds_toArray, List.set_cons_zero, List.set_cons_succ]))
          (refine wpAnyH_take (i := 12) (oi := ⟨some 127, _, _, _, _, _⟩) (v := .pointer (some ⟨bx, 1, none⟩)) rfl (by kernel_rfl) (by kernel_rfl) (by kernel_rfl) (fun _ _ _ h => h) (Or.inl ⟨by rfl, ?_⟩) (by assumption) ?_; (intro w hSw; (try dsimp only at hSw); go_simp); (try simp only [Act.put, List.setIfInBounds_toArray, List.set_cons_zero, List.set_cons_succ]))
          (refine wpAnyH_take (i := 13) (oi := ⟨some 128, _, _, _, _, _⟩) (v := .int .i64 (k1 : Int)) rfl (by kernel_rfl) (by kernel_rfl) (by kernel_rfl) (fun _ _ _ h => h) (Or.inl ⟨by rfl, ?_⟩) (by assumption) ?_; (intro w hSw; (try dsimp only at hSw); go_simp); (try simp only [Act.put, List.setIfInBounds_toArray, List.set_cons_zero, List.set_cons_succ]))
          (refine wpAnyH_take (i := 14) (oi := ⟨some 129, _, _, _, _, _⟩) (v := .pointer (some ⟨S, 0, none⟩)) rfl (by kernel_rfl) (by kernel_rfl) (by kernel_rfl) (fun _ _ _ h => h) (Or.inl ⟨by rfl, ?_⟩) (by assumption) ?_; (intro w hSw; (try dsimp only at hSw); go_simp); (try simp only [Act.put, List.setIfInBounds_toArray, List.set_cons_zero, List.set_cons_succ]))
          (refine wpAnyH_take (i := 15) (oi := ⟨some 130, _, _, _, _, _⟩) (v := .pointer (some ⟨bx, 1, none⟩)) rfl (by kernel_rfl) (by kernel_rfl) (by kernel_rfl) (fun _ _ _ h => h) (Or.inl ⟨by rfl, ?_⟩) (by assumption) ?_; (intro w hSw; (try dsimp only at hSw); go_simp); (try simp only [Act.put, List.setIfInBounds_toArray, List.set_cons_zero, List.set_cons_succ]))
          (refine wpAnyH_take (i := 16) (oi := ⟨some 131, _, _, _, _, _⟩) (v := .int .i64 (k1 : Int)) rfl (by kernel_rfl) (by kernel_rfl) (by kernel_rfl) (fun _ _ _ h => h) (Or.inl ⟨by rfl, ?_⟩) (by assumption) ?_; (intro w hSw; (try dsimp only at hSw); go_simp); (try simp only [Act.put, List.setIfInBounds_toArray, List.set_cons_zero, List.set_cons_succ]))
          (refine wpAnyH_take (i := 18) (oi := ⟨some 133, _, _, _, _, _⟩) (v := .slice (some ⟨g2, o2, none⟩) n2 c2') rfl (by kernel_rfl) (by kernel_rfl) (by kernel_rfl) (fun _ _ _ h => h) (Or.inl ⟨by rfl, ?_⟩) (by assumption) ?_; (intro w hSw; (try dsimp only at hSw); go_simp); (try simp only [Act.put, List.setIfInBounds_toArray, List.set_cons_zero, List.set_cons_succ]))
          (refine wpAnyH_take (i := 19) (oi := ⟨some 134, _, _, _, _, _⟩) (v := .int .i64 (i : Int)) rfl (by kernel_rfl) (by kernel_rfl) (by kernel_rfl) (fun _ _ _ h => h) (Or.inl ⟨by rfl, ?_⟩) (by assumption) ?_; (intro w hSw; (try dsimp only at hSw); go_simp); (try simp only [Act.put, List.setIfInBounds_toArray, List.set_cons_zero, List.set_cons_succ]))
          (refine wpAnyH_take (i := 20) (oi := ⟨some 135, _, _, _, _, _⟩) (v := .int .i64 ((i : Int) + 1)) rfl (by kernel_rfl) (by kernel_rfl) (by kernel_rfl) (fun _ _ _ h => h) (Or.inl ⟨by rfl, ?_⟩) (by assumption) ?_; (intro w hSw; (try dsimp only at hSw); go_simp); (try simp only [Act.put, List.setIfInBounds_toArray, List.set_cons_zero, List.set_cons_succ]))
          (refine wpAnyH_take (i := 21) (oi := ⟨some 136, _, _, _, _, _⟩) (v := (.slice A9 (n2 - (i + 1)) (c2' - (i + 1)))) rfl (by kernel_rfl) (by kernel_rfl) (by kernel_rfl) (fun _ _ _ h => h) (Or.inl ⟨by rfl, ?_⟩) (by assumption) ?_; (intro w hSw; (try dsimp only at hSw); go_simp); (try simp only [Act.put, List.setIfInBounds_toArray, List.set_cons_zero, List.set_cons_succ]))
          refine wpAnyH_ready (rs := [17]) (by kernel_rfl) (by simp) ?_
          refine AllReadyH.cons (o := ⟨some 132, _, _, _, _, _⟩) rfl (fun K hK => ?_) AllReadyH.nil
          go_simp
          refine (cell11_any HO13.out.lp.st (k1 : Int)).mono ?_
          rintro e w14 ⟨rfl, hb14⟩
          have HO14 := Lib.hid (HO13.out.later hb14)
          have HTL14 := Lib.hid (HTL13.out.later hb14)
          clear hb14
          obtain ⟨rf0, rf1, rf2, _⟩ := HO14.out.lp.fb.cells
          obtain ⟨_, rc1, _⟩ := HO14.out.sx.cells
          refine hK.out _ _ ⟨⟨rf0, rf1, rf2⟩, rc1⟩ (fun hS132 => ?_)
          clear hK
          (try simp only [Act.put, List.setIfInBounds_toArray, List.set_cons_zero, List.set_cons_succ])
          refine wpAnyH_ready (rs := [22]) (by kernel_rfl) (by simp) ?_
          refine AllReadyH.cons (o := ⟨some 137, _, _, _, _, _⟩) rfl (fun K hK => ?_) AllReadyH.nil
          go_simp
          refine (Tr.right_any W H s hsz (k1 : Int) (cellF R2 (k1 : Int)).1 A9 (n2 - (i + 1)) (c2' - (i + 1)) (L2.drop (i + 1)) w14 HTL14.out).mono ?_
          rintro e w15 hsay
          obtain ⟨b15, rfl, hb15a, hb15⟩ := hsay
          obtain rfl : b15 = true := hb15a.2 HRR.out
          have HO15 := Lib.hid (HO14.out.later hb15)
          clear hb15 hb15a
          obtain ⟨sf0, sf1, sf2, _⟩ := HO15.out.lp.fb.cells
          obtain ⟨_, sc1, _⟩ := HO15.out.sx.cells
          refine hK.out _ _ ⟨⟨sf0, sf1, sf2⟩, sc1⟩ (fun hS137 => ?_)
          clear hK
          (try simp only [Act.put, List.setIfInBounds_toArray, List.set_cons_zero, List.set_cons_succ])
          (refine wpAnyH_take (i := 23) (oi := ⟨some 138, _, _, _, _, _⟩) (v := .bool false) rfl (by kernel_rfl) (by kernel_rfl) (by kernel_rfl) (fun _ _ _ h => h) (Or.inl ⟨by rfl, ?_⟩) (by assumption) ?_; (intro w hSw; (try dsimp only at hSw); go_simp); (try simp only [Act.put, List.setIfInBounds_toArray, List.set_cons_zero, List.set_cons_succ]))
          (refine wpAnyH_take (i := 24) (oi := ⟨some 139, _, _, _, _, _⟩) (v := .bool false) rfl (by kernel_rfl) (by kernel_rfl) (by kernel_rfl) (fun _ _ _ h => h) (Or.inl ⟨by rfl, ?_⟩) (by assumption) ?_; (intro w hSw; (try dsimp only at hSw); go_simp); (try simp only [Act.put, List.setIfInBounds_toArray, List.set_cons_zero, List.set_cons_succ]))
          refine wpAnyH_done (by kernel_rfl) ?_ _
          go_wp2_with fail
          go_roundw
          case rel => exact ⟨i + 1, _, _, by omega, by go_num, Lib.hid ⟨HO15.out, HO2.out⟩⟩
          case measure => simp [intOf]; omega
        · obtain rfl : i = n2 := by omega
          have HGN := Lib.hid (grant_any HI.out.1.lp.st HI.out.1.lp.inv (k1 : Int))
          have hg0 : grantF s R T (k1 : Int) = (((0, 0, 0), 2), R, T) := by
            obtain ⟨h1, ⟨c', h2⟩, _⟩ := HI.out.2
            exact grantF_none h1 (by rw [h2, List.drop_eq_nil_of_le (by rw [HN2.out]; exact Nat.le_refl _)])
          rw [hg0] at HGN
          clear hg0
          obtain ⟨c0, c1, c2, c3, c4, cl⟩ := HI.out.1.sx.cells
          go_wp2_with fail
          refine HGN.out.mono ?_
          rintro e w7 ⟨rfl, hs7, hf7⟩
          dsimp only [actV]
          have hBa := (Below.refl w7.heap.size w7).alloc (Nat.le_refl _) (.cells #[.int .u8 0, .int .i64 0, .int .i64 0] 39)
          have HO7 := Lib.hid ((HI.out.1.fr hf7 hs7 HI.out.1.lp.inv).later hBa)
          clear hs7 hf7 hBa HGN
          go_wp2_with fail
          go_ret
          exact ⟨rfl, HO7.out.lp.below⟩
    · have HSF := Lib.hid hsf
      unfold StartTold at HSR
      rw [HSF.out] at HSR
      have d1 : (er1 != 0) = true := by rw [bne_iff_ne]; exact her
      clear hsf her h0
      go_wp2_with fail
      refine HSR.out.mono ?_
      rintro e w6 ⟨rfl, hs6, hf6⟩
      have HL6 := Lib.hid (HL5.out.fr hf6 hs6 HL5.out.inv)
      have HS6 : Hid (Sx bx 0 r f tt A n c w6) := Lib.hid ((hf6.block bx (lt_of_heap HS5.out) (fun q => by have := HNE.out.1; omega)).trans HS5.out)
      have HLF := Lib.hid (left_any HL6.out.st HL6.out.inv.lens r)
      clear hs6 hf6 HSR c0 c1 c2 c3 c4 cl
      obtain ⟨c0, c1, c2, c3, c4, cl⟩ := HS6.out.cells
      go_wp2_with fail
      refine HLF.out.mono ?_
      rintro e w7 ⟨A5, n5, c5, rfl, hn5, _, hb7⟩
      obtain rfl : n5 = 0 := by rw [hn5, HR0.out, docked_left]; rfl
      have HL7 := Lib.hid (HL6.out.later hb7)
      clear hb7 hn5 HLF
      go_wp2_with fail
      go_ret
      exact ⟨rfl, HL7.out.below⟩
end Tf
end Go.Proofs.YtellaeihcignaaaGreatDoor
