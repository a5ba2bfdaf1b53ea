/-
  Layer 6: Take, of a window that is not right, of one that is taken, of one behind all others.
-/
import Derived.Test.YtcdclghmebgpnaaGreatDoorWnE
set_option linter.unusedVariables false
set_option maxRecDepth 100000
namespace Go.Proofs.YtcdclghmebgpnaaGreatDoor.Wn
open Go.RowKit Go.Maps

theorem rising_snoc {L : List (Int × Int)} {a b : Int} (h : Rising L) (hp : plc L a = L.length) (hab : a < b) : Rising (L ++ [(a, b)]) := by
  intro i j hij hj
  simp only [List.length_append, List.length_singleton] at hj
  rw [List.getD_eq_getElem?_getD, List.getD_eq_getElem?_getD]
  by_cases hjl : j < L.length
  · rw [List.getElem?_append_left hjl, List.getElem?_append_left (by omega), ← List.getD_eq_getElem?_getD, ← List.getD_eq_getElem?_getD]
    exact h i j hij hjl
  · obtain rfl : j = L.length := by omega
    rw [List.getElem?_append_right (Nat.le_refl _)]
    by_cases hil : i < L.length
    · rw [List.getElem?_append_left hil, ← List.getD_eq_getElem?_getD]
      have := plc_below (L := L) (m := a) i (by omega)
      have e : (([(a, b)] : List (Int × Int))[L.length - L.length]?.getD (0, 0)).2 = b := by simp
      rw [e]
      omega
    · obtain rfl : i = L.length := by omega
      rw [List.getElem?_append_right (Nat.le_refl _)]
      exact Int.le_refl _
theorem take_arg (tb : Nat) (x a b : Int) (w : World) (hr : rgt a b = false) :
    Calls Tryz.prog 23 #[.pointer (some ⟨tb, 0, none⟩), .int .i64 x, .agg #[.int .i64 a, .int .i64 b]] w fun e w' => e = .returned (.int .i64 1) ∧ Below w.heap.size w w' := by
  obtain ⟨b0, b1, hb⟩ := win_box w a b
  have HB := Lib.hid hb
  have HC := Lib.hid (right_any a b (w.alloc (.cells #[.int .i64 a, .int .i64 b] 52)))
  rw [hr] at HC
  clear hb hr
  go_enter Tryz.func23, Tryz.ntmps23
  go_wp2_with fail
  refine HC.out.mono ?_
  rintro e w3 ⟨rfl, hb3⟩
  have HB3 := Lib.hid (HB.out.trans (hb3.mono HB.out.size))
  clear hb3
  go_wp2_with fail
  go_ret
  exact ⟨rfl, HB3.out⟩
set_option maxHeartbeats 2000000 in
theorem take_there (base tb N : Nat) (mv : Option Nat) (T : Int → List (Int × Int)) (gb : Int → Nat) (x a b : Int) (w : World) (h : Tab w base tb N mv T gb) (hx : IW x) (hr : rgt a b = true) (hp : plc (T x) a < (T x).length) (hq : ((T x).getD (plc (T x) a) (0, 0)).1 < b) :
    Calls Tryz.prog 23 #[.pointer (some ⟨tb, 0, none⟩), .int .i64 x, .agg #[.int .i64 a, .int .i64 b]] w fun e w' => e = .returned (.int .i64 3) ∧ Below w.heap.size w w' := by
  obtain ⟨b0, b1, hb⟩ := win_box w a b
  have hsm : (T x).length ≤ 1000000 := Nat.le_trans (Nat.le_trans (h.small x) h.few) (by decide)
  have HB := Lib.hid hb
  have HC := Lib.hid (right_any a b (w.alloc (.cells #[.int .i64 a, .int .i64 b] 52)))
  rw [hr] at HC
  have HT := Lib.hid h
  have HHX := Lib.hid hx
  have HLT := Lib.hid h.cells.2.2
  have HR := Lib.hid (h.rise x)
  generalize hL : T x = L at *
  clear hb hr h
  go_enter Tryz.func23, Tryz.ntmps23
  go_wp2_with fail
  refine HC.out.mono ?_
  rintro e w3 ⟨rfl, hb3⟩
  have b30 := (hb3.cell (p := ⟨w.heap.size, 0, none⟩) (by simp)).trans b0
  have b31 := (hb3.cell (p := ⟨w.heap.size, 1, none⟩) (by simp)).trans b1
  have HB3 := Lib.hid (HB.out.trans (hb3.mono HB.out.size))
  have hlt3 : w.heap.size < w3.heap.size := by have := hb3.size; rw [alloc_size] at this; omega
  have hT3 := HT.out.later HB3.out
  obtain ⟨c3, _, _⟩ := hT3.cells
  obtain ⟨A, c, hlk, hwt⟩ := hT3.lookup HHX.out
  rw [hL] at hlk hwt
  have HW := Lib.hid hwt
  have hs := hwt.size
  have hs1 := hs.1
  have hs2 := hs.2
  clear hb3 hT3 hwt hs b0 b1
  go_wp2_with fail
  refine (lasts_any a _).mono ?_
  rintro e w4 ⟨rfl, hw4⟩
  have HB4 : Hid (Below w3.heap.size w3 w4) := Lib.hid (by rw [hw4]; exact (Below.refl _ _).alloc (Nat.le_refl _) _)
  have k4 : w4.cell? ⟨w3.heap.size, 0, none⟩ = some (.int .i64 a) := by rw [hw4]; simp [World.cell?_alloc_new]
  have hz4 : w4.heap.size = w3.heap.size + 1 := by rw [hw4]; exact alloc_size _ _
  clear hw4
  go_wp2_with fail
  refine (place_any w3.heap.size a A L.length c L w4 (HW.out.later HB4.out) HR.out hsm k4 (by omega)).mono ?_
  rintro e w5 ⟨rfl, hb5⟩
  have HB5 := Lib.hid (HB4.out.trans (hb5.mono HB4.out.size))
  have HW5 := Lib.hid (HW.out.later HB5.out)
  have b50 := (HB5.out.cell (p := ⟨w.heap.size, 0, none⟩) hlt3).trans b30
  have b51 := (HB5.out.cell (p := ⟨w.heap.size, 1, none⟩) hlt3).trans b31
  obtain ⟨g, off, rfl, _, hc⟩ := HW5.out.cell (by omega)
  obtain ⟨k1, k2⟩ := hc _ hp
  generalize plc L a = k at *
  have hkI : (k : Int) < (L.length : Int) := by omega
  obtain ⟨y, hy⟩ : ∃ y, y = (L.getD k (0, 0)).1 := ⟨_, rfl⟩
  rw [← hy] at k1 hq
  clear hc hb5 k4 hy hlk c3 b30 b31 k2
  go_wp2_with fail
  go_big_quiet (fail)
  go_wp2_with fail
  go_ret
  exact ⟨rfl, HB3.out.trans ((HB5.out.mono HB3.out.size).trans (below_drewN _ _ _))⟩
theorem Tab.look2 {w : World} {base tb N : Nat} {mv : Option Nat} {T : Int → List (Int × Int)} {gb : Int → Nat} (h : Tab w base tb N mv T gb) {x : Int} (hx : IW x) :
    ∃ A c, (Instr.lookup 86 (.map mv) (.int .i64 x) false).run Tryz.prog w = .ok (.slice A (T x).length c) w ∧ Wow w base (.slice A (T x).length c) (T x) ∧ ((T x = [] ∧ A = none) ∨ (T x ≠ [] ∧ A = some ⟨gb x, 0, none⟩)) := by
  have hz : (zeroValue 49).run Tryz.prog w = .ok (.slice none 0 0) w := by kernel_rfl
  by_cases ht : T x = []
  · obtain ⟨A, c, h1, h2⟩ := h.lookup hx
    rw [ht] at h1 h2 ⊢
    have e : A = none := by
      cases mv with
      | none =>
        have K := int_keyed Tryz.underlying3
        have hkey := keyOf_int_mk Tryz.underlying3 (WalkArith.wf_i64 hx)
        have hck := K.check w true hkey
        have hfd : (Instr.findKey 3 (.int .i64 x) []).run Tryz.prog w = .ok Option.none w := by
          rcases K.find w hkey [] (fun e he => by cases he) with ⟨h1, _⟩ | ⟨j, e, _, h2, _⟩
          · exact h1
          · simp at h2
        simp [Instr.lookup, run_underlying Tryz.underlying86, Result.andThen, hck, hfd, hz] at h1
        exact h1.1.symm
      | some mb =>
        obtain ⟨_, D, k1, k2⟩ := h.map mb rfl
        obtain ⟨v, ps, hrun, hv⟩ := k1.lookup (int_keyed Tryz.underlying3) Tryz.underlying86 hz (show slR (.slice none 0 0) = some (.nil, []) from rfl) (keyOf_int_mk Tryz.underlying3 (WalkArith.wf_i64 hx))
        have hn : has D (kI x) = false := by rw [(k2 x hx).1]; simp [ht]
        rw [show (Lit.int IntKind.i64 x) = kI x from rfl, atKey_of_not_has hn] at hv
        rw [hrun, slR_nil hv] at h1
        injection h1 with h1
        injection h1 with h1
        exact h1.symm
    subst e
    have hc0 := h2.nil rfl
    subst hc0
    exact ⟨none, 0, h1, Wow.nil _ _, .inl ⟨rfl, rfl⟩⟩
  · cases mv with
    | none => exact absurd (h.nomap rfl x) ht
    | some mb =>
      obtain ⟨_, D, k1, k2⟩ := h.map mb rfl
      obtain ⟨v, ps, hrun, hv⟩ := k1.lookup (int_keyed Tryz.underlying3) Tryz.underlying86 hz (show slR (.slice none 0 0) = some (.nil, []) from rfl) (keyOf_int_mk Tryz.underlying3 (WalkArith.wf_i64 hx))
      obtain ⟨c, hat, ho⟩ := (k2 x hx).2 ht
      rw [show (Lit.int IntKind.i64 x) = kI x from rfl, hat] at hv
      rw [hrun, slR_inv hv]
      exact ⟨_, c, rfl, ho, .inr ⟨ht, rfl⟩⟩
theorem Tab.kinds {w : World} {base tb N : Nat} {mv : Option Nat} {T : Int → List (Int × Int)} {gb : Int → Nat} (h : Tab w base tb N mv T gb) {x : Int} (hx : IW x) (ht : T x ≠ []) : gb x ≠ tb ∧ mv ≠ some (gb x) := by
  cases mv with
  | none => exact absurd (h.nomap rfl x) ht
  | some mb =>
    obtain ⟨_, D, k1, k2⟩ := h.map mb rfl
    obtain ⟨c, _, ho⟩ := (k2 x hx).2 ht
    obtain ⟨cu, hcu⟩ := ho.block
    refine ⟨fun e => ?_, fun e => ?_⟩
    · rw [e, h.box] at hcu; simp at hcu
    · injection e with e
      obtain ⟨es, clock, hb, _⟩ := k1
      rw [← e, hb] at hcu; simp at hcu
theorem Wow.some {w : World} {base n c : Nat} {A : Option Addr} {L : List (Int × Int)} (h : Wow w base (.slice A n c) L) (hL : L ≠ []) : ∃ g, A = Option.some ⟨g, 0, Option.none⟩ ∧ n = L.length := by
  unfold Wow at h
  rcases h.2 with ⟨q, h0⟩ | ⟨g', cap', cur, q, hg, hh, h1, h2, _⟩
  · exact absurd (List.eq_nil_of_length_eq_zero h0) hL
  · injection q with q1 q2 q3
    exact ⟨g', q1, q2⟩
/-- What lies in the table's blocks after one cell's windows were written anew and kept. -/
theorem kept_turn {w w1 w6 w' : World} {base tb N : Nat} {mv mv' : Option Nat} {T : Int → List (Int × Int)} {gb : Int → Nat} {x : Int} {L : List (Int × Int)} {g : Nat} {row : Option Nat} (h : Tab w base tb N mv T gb) (hx : IW x) (hb : Below w.heap.size w w1) (hg : w1.grownBy w6 row) (hrow : ∀ k, row = some k → T x ≠ [] ∧ k = gb x)
    (hgb : (T x ≠ [] ∧ g = gb x) ∨ w.heap.size ≤ g) (ht : Turn (KF tb mv) (KF tb mv') w6 w') : Turn (TF tb mv T gb) (TF tb mv' (upd T x L) (upd gb x g)) w w' := by
  refine ⟨ht.os.trans (hg.os.trans hb.os), ht.tape.trans (hg.tape.trans hb.tape), ht.output.trans (hg.output.trans hb.output), Nat.le_trans hb.size (Nat.le_trans hg.size ht.size), fun k hk hF => ?_, fun k hk => ?_⟩
  · rw [ht.block k (Nat.lt_of_lt_of_le hk (Nat.le_trans hb.size hg.size)) (fun q => by rcases q with q | q; exact hF (.inl q); exact hF (.inr (.inl q))), hg.block k (Nat.lt_of_lt_of_le hk hb.size) (fun q => by obtain ⟨q1, q2⟩ := hrow k q.symm; exact hF (.inr (.inr ⟨x, hx, q1, q2.symm⟩))), hb.block k hk]
  · have hsz := Nat.le_trans hb.size hg.size
    rcases hk with rfl | e | ⟨y, hy, hne, rfl⟩
    · exact .inl (.inl rfl)
    · rcases ht.foot k (.inr e) with (q | q) | q
      · exact .inl (.inl q)
      · exact .inl (.inr (.inl q))
      · exact .inr (by omega)
    · by_cases e : y = x
      · subst e
        rw [upd_same]
        rcases hgb with ⟨q1, q2⟩ | q
        · exact .inl (.inr (.inr ⟨y, hy, q1, q2.symm⟩))
        · exact .inr q
      · rw [upd_other T L e] at hne
        rw [upd_other gb g e]
        exact .inl (.inr (.inr ⟨y, hy, hne, rfl⟩))
set_option maxHeartbeats 2000000 in
theorem take_end (base tb N : Nat) (mv : Option Nat) (T : Int → List (Int × Int)) (gb : Int → Nat) (x a b : Int) (w : World) (h : Tab w base tb N mv T gb) (hx : IW x) (hN : N + 1 ≤ 100000) (hr : rgt a b = true) (hp : plc (T x) a = (T x).length) (hq : (T x).length < 4096) :
    Calls Tryz.prog 23 #[.pointer (some ⟨tb, 0, none⟩), .int .i64 x, .agg #[.int .i64 a, .int .i64 b]] w fun e w' => e = .returned (.int .i64 0) ∧ ∃ mv' g, Tab w' base tb (N + 1) mv' (upd T x (T x ++ [(a, b)])) (upd gb x g) ∧ Turn (TF tb mv T gb) (TF tb mv' (upd T x (T x ++ [(a, b)])) (upd gb x g)) w w' := by
  obtain ⟨b0, b1, hb⟩ := win_box w a b
  have hsm : (T x).length ≤ 1000000 := Nat.le_trans (Nat.le_trans (h.small x) h.few) (by decide)
  have HB := Lib.hid hb
  have HC := Lib.hid (right_any a b (w.alloc (.cells #[.int .i64 a, .int .i64 b] 52)))
  have HAB : Hid (a < b) := Lib.hid (by unfold rgt at hr; simp at hr; omega)
  rw [hr] at HC
  have HT := Lib.hid h
  have HHX := Lib.hid hx
  have HLT := Lib.hid h.cells.2.2
  have HLO := Lib.hid h.lo
  have HR := Lib.hid (h.rise x)
  have HNN := Lib.hid hN
  have HP := Lib.hid hp
  have HQ := Lib.hid hq
  have HSM := Lib.hid hsm
  have dq : decide (4096 ≤ ((T x).length : Int)) = false := decide_eq_false (by omega)
  generalize hL : T x = L at *
  have HL := Lib.hid hL
  clear hb hr h hN hx hp hq hL hsm
  go_enter Tryz.func23, Tryz.ntmps23
  go_wp2_with fail
  refine HC.out.mono ?_
  rintro e w3 ⟨rfl, hb3⟩
  have b30 := (hb3.cell (p := ⟨w.heap.size, 0, none⟩) (by simp)).trans b0
  have b31 := (hb3.cell (p := ⟨w.heap.size, 1, none⟩) (by simp)).trans b1
  have HB3 := Lib.hid (HB.out.trans (hb3.mono HB.out.size))
  have hlt3 : w.heap.size < w3.heap.size := by have := hb3.size; rw [alloc_size] at this; omega
  have hT3 := HT.out.later HB3.out
  obtain ⟨c3, _, _⟩ := hT3.cells
  obtain ⟨A, c, hlk, how, hsh⟩ := hT3.look2 HHX.out
  rw [HL.out] at hlk how hsh
  have HO := Lib.hid how
  have HSH := Lib.hid hsh
  have hs := how.wt.size
  have hs1 := hs.1
  have hs2 := hs.2
  clear hb3 hT3 how hsh hs b0 b1
  go_wp2_with fail
  refine (lasts_any a _).mono ?_
  rintro e w4 ⟨rfl, hw4⟩
  have HB4 : Hid (Below w3.heap.size w3 w4) := Lib.hid (by rw [hw4]; exact (Below.refl _ _).alloc (Nat.le_refl _) _)
  have k4 : w4.cell? ⟨w3.heap.size, 0, none⟩ = some (.int .i64 a) := by rw [hw4]; simp [World.cell?_alloc_new]
  have hz4 : w4.heap.size = w3.heap.size + 1 := by rw [hw4]; exact alloc_size _ _
  clear hw4
  go_wp2_with fail
  refine (place_any w3.heap.size a A L.length c L w4 (HO.out.later HB4.out).wt HR.out HSM.out k4 (by omega)).mono ?_
  rintro e w5 ⟨rfl, hb5⟩
  have HB5 := Lib.hid (HB4.out.trans (hb5.mono HB4.out.size))
  have HO5 := Lib.hid (HO.out.later HB5.out)
  have b50 := (HB5.out.cell (p := ⟨w.heap.size, 0, none⟩) hlt3).trans b30
  have b51 := (HB5.out.cell (p := ⟨w.heap.size, 1, none⟩) hlt3).trans b31
  have HBW5 := Lib.hid (HB3.out.trans (HB5.out.mono HB3.out.size))
  rw [HP.out]
  clear hb5 k4 hlk c3 b30 b31
  go_wp2_with fail
  go_big_quiet (fail)
  obtain ⟨w6, hw6⟩ : ∃ w6, w6 = w5.drewN nq := ⟨_, rfl⟩
  have HB6 : Hid (Below w.heap.size w w6) := Lib.hid (by rw [hw6]; exact HBW5.out.trans (below_drewN _ _ _))
  have HO6 : Hid (Wow w6 base (.slice A L.length c) L) := Lib.hid (by rw [hw6]; exact HO5.out.later (below_drewN _ _ _))
  have b60 : w6.cell? ⟨w.heap.size, 0, none⟩ = some (.int .i64 a) := by rw [hw6]; exact b50
  have b61 : w6.cell? ⟨w.heap.size, 1, none⟩ = some (.int .i64 b) := by rw [hw6]; exact b51
  rw [← hw6]
  clear hw6 b50 b51 HO5
  go_wp2_with fail
  have hlt1 : tb < w.heap.size := HLT.out
  refine (insert_end base A c L a b w6 _ HO6.out rfl (by have := HLO.out; have := HB6.out.size; omega) (by have := HQ.out; omega)).mono ?_
  rintro e w7 ⟨A', c', rfl, ho7, hg7, hv7⟩
  have HO7 := Lib.hid ho7
  have HG7 := Lib.hid hg7
  have HV7 := Lib.hid hv7
  clear ho7 hg7 hv7
  go_wp2_with fail
  have ho7 := HO7.out
  have hg7 := HG7.out
  have hv7 := HV7.out
  obtain ⟨w1, hw1⟩ : ∃ w1, w1 = w6.alloc (.cells #[.int .i64 a, .int .i64 b] 52) := ⟨_, rfl⟩
  rw [← hw1] at hg7 hv7
  have HB1 : Below w.heap.size w w1 := by rw [hw1]; exact HB6.out.trans ((Below.refl _ _).alloc HB6.out.size _)
  clear hw1
  have hT1 := HT.out.later HB1
  have hne : L ++ [(a, b)] ≠ [] := by simp
  have hll : (L ++ [(a, b)]).length = L.length + 1 := by simp
  obtain ⟨g, rfl, _⟩ := ho7.some hne
  have hown : ∀ k, (Value.slice A L.length c).ownBlock = Option.some k → T x ≠ [] ∧ k = gb x := fun k hk => by
    rcases HSH.out with ⟨q1, q2⟩ | ⟨q1, q2⟩
    · rw [q2] at hk; simp [Value.ownBlock] at hk
    · rw [q2] at hk
      simp [Value.ownBlock] at hk
      exact ⟨by rw [HL.out]; exact q1, hk.symm⟩
  have hgs : (T x ≠ [] ∧ g = gb x) ∨ g = w1.heap.size := by
    rcases hv7 with q | q
    · exact .inl (hown g (by rw [← q]; simp [Value.ownBlock]))
    · exact .inr (by simpa [Value.ownBlock] using q)
  have hgs2 : (T x ≠ [] ∧ g = gb x) ∨ w.heap.size ≤ g := by
    rcases hgs with q | q
    · exact .inl q
    · exact .inr (by rw [q]; exact HB1.size)
  have HK := keep_any base tb N mv T gb x (L ++ [(a, b)]) g c' w1 w7 hT1 HHX.out HNN.out hne (rising_snoc HR.out HP.out HAB.out) (by rw [hll]; have := HT.out.small x; rw [HL.out] at this; omega) (Nat.le_trans (Nat.le_trans HLO.out (Nat.le_of_lt hlt1)) (Nat.le_trans HB1.size hg7.size))
    (fun k hk => by
      have hkw : k < w1.heap.size := by
        rcases hk with rfl | q | ⟨y, hy, _, hty, rfl⟩
        · exact (hT1.foot _ (.inl rfl)).2
        · exact (hT1.foot _ (.inr (.inl q))).2
        · exact (hT1.foot _ (.inr (.inr ⟨y, hy, hty, rfl⟩))).2
      refine hg7.block k hkw (fun q => ?_)
      obtain ⟨q1, q2⟩ := hown k q.symm
      have hk2 := hT1.kinds HHX.out q1
      rcases hk with e | e | ⟨y, hy, hyx, hty, e⟩
      · exact hk2.1 (by rw [← q2, e])
      · exact hk2.2 (by rw [← q2, e])
      · exact hT1.apart y x hy HHX.out hyx hty q1 (by rw [e, q2]))
    (by rw [hll]; exact ho7)
    (fun y hy hyx hty q => by
      rcases hgs with ⟨q1, q2⟩ | q1
      · exact hT1.apart y x hy HHX.out hyx hty q1 (by rw [q, q2])
      · have := (hT1.foot _ (.inr (.inr ⟨y, hy, hty, rfl⟩))).2
        omega)
  rw [hll] at HK
  have HKK := Lib.hid HK
  have HTU := Lib.hid (fun (mv' : Option Nat) (w' : World) (ht : Turn (KF tb mv) (KF tb mv') w7 w') => kept_turn (L := L ++ [(a, b)]) HT.out HHX.out HB1 hg7 hown hgs2 ht)
  clear HK hT1 hne hll hown hgs hgs2 ho7 hg7 hv7 HB1
  refine HKK.out.mono ?_
  rintro e w8 ⟨rfl, mv', hT8, ht8⟩
  have HT8 := Lib.hid hT8
  have HT9 := Lib.hid (HTU.out mv' w8 ht8)
  clear hT8 ht8
  go_wp2_with fail
  go_ret
  exact ⟨rfl, mv', g, HT8.out, HT9.out⟩
end Go.Proofs.YtcdclghmebgpnaaGreatDoor.Wn
