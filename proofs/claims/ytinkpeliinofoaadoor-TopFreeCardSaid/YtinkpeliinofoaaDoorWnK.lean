/-
  Layer 6: a cell's list is given up; Drop.
-/
import Derived.Test.YtinkpeliinofoaaDoorWnJ
set_option linter.unusedVariables false
set_option maxRecDepth 100000
namespace Go.Proofs.YtinkpeliinofoaaDoor.Wn
open Go.RowKit Go.Maps

set_option maxHeartbeats 2000000 in
theorem keep_del (base tb N : Nat) (mv : Option Nat) (T : Int → List (Int × Int)) (gb : Int → Nat) (x : Int) (A : Option Addr) (c : Nat) (w0 w : World) (h : Tab w0 base tb N mv T gb) (hx : IW x)
    (hsame : ∀ k, (k = tb ∨ mv = some k ∨ ∃ y, IW y ∧ y ≠ x ∧ T y ≠ [] ∧ gb y = k) → w.heap[k]? = w0.heap[k]?) :
    Calls Tryd.prog 24 #[.pointer (some ⟨tb, 0, none⟩), .int .i64 x, .slice A 0 c] w fun e w' => e = .returned (.tuple #[]) ∧ Tab w' base tb N mv (upd T x []) gb ∧ Turn (KF tb mv) (KF tb mv) w w' := by
  have hbox : w.heap[tb]? = some (.cells #[.map mv] 67 (0, 0)) := (hsame tb (.inl rfl)).trans h.box
  have c0 : w.cell? ⟨tb, 0, none⟩ = some (.map mv) := by rw [cell_of_row w tb 0 _ _ _ hbox]; rfl
  have hlt := lt_of_heap hbox
  have hkey := keyOf_int_mk Tryd.underlying3 (WalkArith.wf_i64 hx)
  cases mv with
  | none =>
    have hT := h.nomap rfl
    have hdl := fun ty => Maps.drop_nil (w := w) (int_keyed Tryd.underlying3) Tryd.underlying65 hkey ty
    have HT : Hid (Tab w base tb N none (upd T x []) gb ∧ Turn (KF tb none) (KF tb none) w w) := Lib.hid ⟨⟨hbox, h.lo, h.few, fun _ y => by unfold upd; split; rfl; exact hT y, (fun mb e => by cases e), (fun y z _ _ _ h1 _ => absurd (by unfold upd; split; rfl; exact hT y) h1), fun y => (by unfold upd; split; exact (fun a b _ hb => by simp at hb); exact h.rise y), fun y => (by unfold upd; split; exact Nat.zero_le _; exact h.small y)⟩, Turn.refl _ _⟩
    clear h hsame hbox hT
    go_enter Tryd.func24, Tryd.ntmps24
    go_wp2_with fail
    refine bodyPost_ret (results_none rfl _ _ _) rfl ?_
    exact ⟨rfl, HT.out.1, HT.out.2⟩
  | some mb =>
    obtain ⟨hmb, D, hD, hrow⟩ := h.map mb rfl
    have hD2 : w.ownsMap Tryd.prog 3 slR mb N D := owns_same hD (hsame mb (.inr (.inl rfl)))
    obtain ⟨w3, hdl0, hD3, hg30⟩ := hD2.drop (int_keyed Tryd.underlying3) Tryd.underlying65 hkey 65
    have hdl : ∀ ty, (Builtin.delete_ #[65, 3] ty #[.map (some mb), .int .i64 x]).run Tryd.prog w = .ok (.tuple #[]) w3 := fun ty => hdl0
    have hg3 := hg30.grown
    have hmbt : mb ≠ tb := fun e => by
      obtain ⟨es, clock, hb, _⟩ := hD2
      rw [e, hbox] at hb; simp at hb
    have hold : ∀ k, k < w.heap.size → k ≠ mb → w3.heap[k]? = w.heap[k]? := fun k hk hkt => hg3.block k hk (by simp; omega)
    have hbox3 : w3.heap[tb]? = some (.cells #[.map (some mb)] 67 (0, 0)) := by
      rw [hold tb hlt (by omega)]; exact hbox
    have HT : Hid (Tab w3 base tb N (some mb) (upd T x []) gb ∧ Turn (KF tb (some mb)) (KF tb (some mb)) w w3) := Lib.hid ⟨
      ⟨hbox3, h.lo, h.few, (fun e => by cases e), fun mb' e => by
        obtain rfl : mb = mb' := by injection e
        refine ⟨hmb, _, hD3, fun y hy => ?_⟩
        by_cases e : y = x
        · subst e
          rw [upd_same]
          refine ⟨?_, fun h => absurd rfl h⟩
          rw [show (Lit.int IntKind.i64 y) = kI y from rfl, has_del_same]
          simp
        · rw [upd_other T [] e, show (Lit.int IntKind.i64 x) = kI x from rfl, has_del_other (fun h => e (kI_inj h))]
          refine ⟨(hrow y hy).1, fun hne => ?_⟩
          obtain ⟨c', k1, k2⟩ := (hrow y hy).2 hne
          have hk := hsame (gb y) (.inr (.inr ⟨y, hy, e, hne, rfl⟩))
          obtain ⟨cu, hcu⟩ := k2.block
          have hgm2 : gb y ≠ mb := fun e => by
            obtain ⟨es, clock, hb, _⟩ := hD
            rw [e, hb] at hcu; simp at hcu
          refine ⟨c', fun z => by rw [atKey_del_other (fun h => e (kI_inj h))]; exact k1 z, ownsRow_same k2 (fun k hkk => ?_)⟩
          obtain rfl : gb y = k := by simpa [Value.ownBlock] using hkk
          exact (hold _ (lt_of_heap (hk.trans hcu)) hgm2).trans hk,
       fun y z hy hz hne h1 h2 => by
        have e1 : y ≠ x := fun e => h1 (by rw [e, upd_same])
        have e2 : z ≠ x := fun e => h2 (by rw [e, upd_same])
        rw [upd_other T [] e1] at h1
        rw [upd_other T [] e2] at h2
        exact h.apart y z hy hz hne h1 h2,
       fun y => (by unfold upd; split; exact (fun a b _ hb => by simp at hb); exact h.rise y), fun y => (by unfold upd; split; exact Nat.zero_le _; exact h.small y)⟩,
      ⟨hg3.os, hg3.tape, hg3.output, hg3.size, fun k hk hF => hold k hk (fun e => hF (.inr (by rw [e]))), fun k hk => .inl hk⟩⟩
    clear h hsame hbox hD hD2 hD3 hg30 hg3 hold hbox3 hrow hdl0
    go_enter Tryd.func24, Tryd.ntmps24
    go_wp2_with fail
    refine bodyPost_ret (results_none rfl _ _ _) rfl ?_
    exact ⟨rfl, HT.out.1, HT.out.2⟩
set_option maxHeartbeats 2000000 in
theorem drop_no (base tb N : Nat) (mv : Option Nat) (T : Int → List (Int × Int)) (gb : Int → Nat) (x a b : Int) (w : World) (h : Tab w base tb N mv T gb) (hx : IW x) (k : Nat) (hk : plc (T x) a = k) (hno : k < (T x).length → (T x).getD k (0, 0) ≠ (a, b)) :
    Calls Tryd.prog 15 #[.pointer (some ⟨tb, 0, none⟩), .int .i64 x, .agg #[.int .i64 a, .int .i64 b]] w fun e w' => e = .returned (.int .i64 2) ∧ Below w.heap.size w w' := by
  obtain ⟨b0, b1, hb⟩ := win_box w a b
  have hsm : (T x).length ≤ 1000000 := Nat.le_trans (Nat.le_trans (h.small x) h.few) (by decide)
  have HB := Lib.hid hb
  have hz : (w.alloc (.cells #[.int .i64 a, .int .i64 b] 36)).heap.size = w.heap.size + 1 := alloc_size _ _
  obtain ⟨w3, hw3⟩ : ∃ w3, w3 = w.alloc (.cells #[.int .i64 a, .int .i64 b] 36) := ⟨_, rfl⟩
  have hT3 := h.later hb
  obtain ⟨c3, _, _⟩ := hT3.cells
  obtain ⟨A, c, hlk, hwt⟩ := hT3.lookup hx
  have HW := Lib.hid hwt
  have HR := Lib.hid (h.rise x)
  have HSM := Lib.hid hsm
  have HKE := Lib.hid hk
  have hle := plc_le (T x) a
  rw [hk] at hle
  generalize hL : T x = L at *
  have hs := hwt.size
  have hs1 := hs.1
  have hs2 := hs.2
  have HBB : Hid ((w.alloc (.cells #[.int .i64 a, .int .i64 b] 36)).cell? ⟨w.heap.size, 0, none⟩ = some (.int .i64 a) ∧ (w.alloc (.cells #[.int .i64 a, .int .i64 b] 36)).cell? ⟨w.heap.size, 1, none⟩ = some (.int .i64 b)) := Lib.hid ⟨b0, b1⟩
  have HLT : Hid (tb < w.heap.size) := Lib.hid h.cells.2.2
  clear hb h hT3 hwt hs hsm hL hk hx hz
  go_enter Tryd.func15, Tryd.ntmps15
  go_wp2_with fail
  rw [← hw3]
  rw [← hw3] at HB HW HBB b0 b1 hlk c3
  clear hlk c3
  refine (lasts_any a _).mono ?_
  rintro e w4 ⟨rfl, hw4⟩
  have HB4 : Hid (Below w3.heap.size w3 w4) := Lib.hid (by rw [hw4]; exact (Below.refl _ _).alloc (Nat.le_refl _) _)
  have k4 : w4.cell? ⟨w3.heap.size, 0, none⟩ = some (.int .i64 a) := by rw [hw4]; simp [World.cell?_alloc_new]
  have hz4 : w4.heap.size = w3.heap.size + 1 := by rw [hw4]; exact alloc_size _ _
  have hlt3 : w.heap.size < w3.heap.size := by rw [hw3, alloc_size]; omega
  clear hw4 hw3 b0 b1
  go_wp2_with fail
  refine (place_any w3.heap.size a A L.length c L w4 (HW.out.later HB4.out) HR.out HSM.out k4 (by omega)).mono ?_
  rintro e w5 ⟨rfl, hb5⟩
  have HB5 := Lib.hid (HB4.out.trans (hb5.mono HB4.out.size))
  have HW5 := Lib.hid (HW.out.later HB5.out)
  have b50 := (HB5.out.cell (p := ⟨w.heap.size, 0, none⟩) hlt3).trans HBB.out.1
  have b51 := (HB5.out.cell (p := ⟨w.heap.size, 1, none⟩) hlt3).trans HBB.out.2
  rw [HKE.out]
  clear hb5 k4
  by_cases hkl : k < L.length
  · obtain ⟨g, off, rfl, _, hc⟩ := HW5.out.cell (by omega)
    obtain ⟨k1, k2⟩ := hc _ hkl
    have hkI : (k : Int) < (L.length : Int) := by omega
    have dk : ((k : Int) == (L.length : Int)) = false := by rw [beq_eq_false_iff_ne]; omega
    have hne := hno hkl
    obtain ⟨p1, hp1⟩ : ∃ p1, p1 = (L.getD k (0, 0)).1 := ⟨_, rfl⟩
    obtain ⟨p2, hp2⟩ : ∃ p2, p2 = (L.getD k (0, 0)).2 := ⟨_, rfl⟩
    have hcs : p1 ≠ a ∨ (p1 = a ∧ p2 ≠ b) := by
      by_cases e1 : p1 = a
      · exact .inr ⟨e1, fun e2 => hne (Prod.ext (by rw [← hp1, e1]) (by rw [← hp2, e2]))⟩
      · exact .inl e1
    rw [← hp1] at k1
    rw [← hp2] at k2
    clear hc hp1 hp2 hne hno
    rcases hcs with e1 | ⟨rfl, e1⟩
    · have d1 : (p1 == a) = false := by rw [beq_eq_false_iff_ne]; exact e1
      go_wp2_with fail
      go_big_quiet (fail)
      go_wp2_with fail
      go_ret
      exact ⟨rfl, HB.out.trans ((HB5.out.mono HB.out.size).trans (below_drewN _ _ _))⟩
    · have d1 : (p2 == b) = false := by rw [beq_eq_false_iff_ne]; exact e1
      go_wp2_with fail
      go_big_quiet (fail)
      go_wp2_with fail
      go_ret
      exact ⟨rfl, HB.out.trans ((HB5.out.mono HB.out.size).trans (below_drewN _ _ _))⟩
  · obtain rfl : k = L.length := by omega
    clear hno
    go_wp2_with fail
    go_big_quiet (fail)
    go_wp2_with fail
    go_ret
    exact ⟨rfl, HB.out.trans ((HB5.out.mono HB.out.size).trans (below_drewN _ _ _))⟩
set_option maxHeartbeats 2000000 in
theorem drop_yes (base tb N : Nat) (mv : Option Nat) (T : Int → List (Int × Int)) (gb : Int → Nat) (x a b : Int) (w : World) (h : Tab w base tb N mv T gb) (hx : IW x) (k : Nat) (hk : plc (T x) a = k) (hkl : k < (T x).length) (hel : (T x).getD k (0, 0) = (a, b)) (hN : N < 4096) (hri : Rising ((T x).take k ++ (T x).drop (k + 1))) :
    Calls Tryd.prog 15 #[.pointer (some ⟨tb, 0, none⟩), .int .i64 x, .agg #[.int .i64 a, .int .i64 b]] w fun e w' => e = .returned (.int .i64 0) ∧ Acted base tb N mv T gb (upd T x ((T x).take k ++ (T x).drop (k + 1))) w w' := by
  obtain ⟨b0, b1, hb⟩ := win_box w a b
  have hsm : (T x).length ≤ 1000000 := Nat.le_trans (Nat.le_trans (h.small x) h.few) (by decide)
  have HB := Lib.hid hb
  have hz : (w.alloc (.cells #[.int .i64 a, .int .i64 b] 36)).heap.size = w.heap.size + 1 := alloc_size _ _
  obtain ⟨w3, hw3⟩ : ∃ w3, w3 = w.alloc (.cells #[.int .i64 a, .int .i64 b] 36) := ⟨_, rfl⟩
  have hT3 := h.later hb
  obtain ⟨c3, _, _⟩ := hT3.cells
  obtain ⟨A, c, hlk, how, hsh⟩ := hT3.look2 hx
  have hwt := how.wt
  have HW := Lib.hid hwt
  have HO := Lib.hid how
  have HT := Lib.hid h
  have HHX := Lib.hid hx
  have HRI := Lib.hid hri
  obtain ⟨gx, hgx⟩ : ∃ gx, gx = gb x := ⟨_, rfl⟩
  have hTne : T x ≠ [] := fun e => by rw [e] at hkl; simp at hkl
  obtain rfl : A = some ⟨gx, 0, none⟩ := by
    rcases hsh with ⟨q1, _⟩ | ⟨_, q2⟩
    · exact absurd q1 hTne
    · rw [q2, hgx]
  have HTN := Lib.hid hTne
  have HGX := Lib.hid hgx
  have HSMA : Hid ((T x).length ≤ N) := Lib.hid (h.small x)
  have HR := Lib.hid (h.rise x)
  have HSM := Lib.hid hsm
  have HKE := Lib.hid hk
  have hle := plc_le (T x) a
  rw [hk] at hle
  generalize hL : T x = L at *
  have hs := hwt.size
  have hs1 := hs.1
  have hs2 := hs.2
  have HL := Lib.hid hL
  have HBB : Hid ((w.alloc (.cells #[.int .i64 a, .int .i64 b] 36)).cell? ⟨w.heap.size, 0, none⟩ = some (.int .i64 a) ∧ (w.alloc (.cells #[.int .i64 a, .int .i64 b] 36)).cell? ⟨w.heap.size, 1, none⟩ = some (.int .i64 b)) := Lib.hid ⟨b0, b1⟩
  have HLT : Hid (tb < w.heap.size) := Lib.hid h.cells.2.2
  clear hb h hT3 hwt hs hsm hL hk hx hz how hsh hri hTne hgx
  go_enter Tryd.func15, Tryd.ntmps15
  go_wp2_with fail
  rw [← hw3]
  rw [← hw3] at HB HW HO HBB b0 b1 hlk c3
  clear hlk c3
  refine (lasts_any a _).mono ?_
  rintro e w4 ⟨rfl, hw4⟩
  have HB4 : Hid (Below w3.heap.size w3 w4) := Lib.hid (by rw [hw4]; exact (Below.refl _ _).alloc (Nat.le_refl _) _)
  have k4 : w4.cell? ⟨w3.heap.size, 0, none⟩ = some (.int .i64 a) := by rw [hw4]; simp [World.cell?_alloc_new]
  have hz4 : w4.heap.size = w3.heap.size + 1 := by rw [hw4]; exact alloc_size _ _
  have hlt3 : w.heap.size < w3.heap.size := by rw [hw3, alloc_size]; omega
  clear hw4 hw3 b0 b1
  go_wp2_with fail
  refine (place_any w3.heap.size a (some ⟨gx, 0, none⟩) L.length c L w4 (HW.out.later HB4.out) HR.out HSM.out k4 (by omega)).mono ?_
  rintro e w5 ⟨rfl, hb5⟩
  have HB5 := Lib.hid (HB4.out.trans (hb5.mono HB4.out.size))
  have HW5 := Lib.hid (HW.out.later HB5.out)
  have b50 := (HB5.out.cell (p := ⟨w.heap.size, 0, none⟩) hlt3).trans HBB.out.1
  have b51 := (HB5.out.cell (p := ⟨w.heap.size, 1, none⟩) hlt3).trans HBB.out.2
  have HO5 := Lib.hid (HO.out.later HB5.out)
  have HBW5 := Lib.hid (HB.out.trans (HB5.out.mono HB.out.size))
  rw [HKE.out]
  clear hb5 k4
  obtain ⟨g, off, hgo, _, hc⟩ := HW5.out.cell (by omega)
  injection hgo with hgo
  injection hgo with e1 e2
  subst e1 e2
  obtain ⟨k1, k2⟩ := hc _ hkl
  rw [hel, Nat.zero_add] at k1 k2
  have hkI : (k : Int) < (L.length : Int) := by omega
  have dk : ((k : Int) == (L.length : Int)) = false := by rw [beq_eq_false_iff_ne]; omega
  have HEL := Lib.hid hel
  have HKL := Lib.hid hkl
  clear hc hel
  go_wp2_with fail
  go_big_quiet (fail)
  obtain ⟨w6, hw6⟩ : ∃ w6, w6 = w5.drewN nq := ⟨_, rfl⟩
  have HB6 : Hid (Below w.heap.size w w6) := Lib.hid (by rw [hw6]; exact HBW5.out.trans (below_drewN _ _ _))
  have HO6 : Hid (Wow w6 base (.slice (some ⟨gx, 0, none⟩) L.length c) L) := Lib.hid (by rw [hw6]; exact HO5.out.later (below_drewN _ _ _))
  rw [← hw6]
  clear hw6 b50 b51 HO5 k1 k2
  have HDL := Lib.hid (delete_any base (some ⟨gx, 0, none⟩) c L k (k + 1) w6 HO6.out (Nat.le_succ _) HKL.out (by have := HSMA.out; omega))
  rw [show (((k + 1 : Nat)) : Int) = (k : Int) + 1 by omega] at HDL
  go_wp2_with fail
  refine HDL.out.mono ?_
  obtain ⟨M, hM⟩ : ∃ M, M = L.take k ++ L.drop (k + 1) := ⟨_, rfl⟩
  have hMl : k + (L.length - (k + 1)) = M.length := by rw [hM]; simp; omega
  rw [hMl, ← hM]
  have HMM := Lib.hid hM
  have HML := Lib.hid hMl
  clear hM hMl
  rintro e w7 ⟨rfl, ho7, hg7⟩
  have HO7 := Lib.hid ho7
  have HG7 := Lib.hid hg7
  clear ho7 hg7
  go_wp2_with fail
  have hT6 := HT.out.later HB6.out
  have hg7 : w6.grownBy w7 (some gx) := HG7.out
  have hown : ∀ k, (some gx : Option Nat) = some k → T x ≠ [] ∧ k = gb x := fun k hk => ⟨by rw [HL.out]; exact HTN.out, by injection hk with hk; rw [← hk, HGX.out]⟩
  have hsame : ∀ k, (k = tb ∨ mv = some k ∨ ∃ y, IW y ∧ y ≠ x ∧ T y ≠ [] ∧ gb y = k) → w7.heap[k]? = w6.heap[k]? := fun k hk => by
    have hkw : k < w6.heap.size := by
      rcases hk with rfl | q | ⟨y, hy, _, hty, rfl⟩
      · exact (hT6.foot _ (.inl rfl)).2
      · exact (hT6.foot _ (.inr (.inl q))).2
      · exact (hT6.foot _ (.inr (.inr ⟨y, hy, hty, rfl⟩))).2
    refine hg7.block k hkw (fun q => ?_)
    obtain ⟨q1, q2⟩ := hown k q.symm
    have hk2 := hT6.kinds HHX.out q1
    rcases hk with e | e | ⟨y, hy, hyx, hty, e⟩
    · exact hk2.1 (by rw [← q2, e])
    · exact hk2.2 (by rw [← q2, e])
    · exact hT6.apart y x hy HHX.out hyx hty q1 (by rw [e, q2])
  have hTU := fun (mv' : Option Nat) (w' : World) (ht : Turn (KF tb mv) (KF tb mv') w7 w') => kept_turn (L := M) (g := gx) HT.out HHX.out HB6.out hg7 hown (.inl ⟨by rw [HL.out]; exact HTN.out, HGX.out⟩) ht
  have HKK : Hid (Calls Tryd.prog 24 #[.pointer (some ⟨tb, 0, none⟩), .int .i64 x, .slice (some ⟨gx, 0, none⟩) M.length c] w7 fun e w' => e = .returned (.tuple #[]) ∧ Acted base tb N mv T gb (upd T x M) w w') := Lib.hid (by
    by_cases hMe : M = []
    · rw [hMe]
      refine (keep_del base tb N mv T gb x (some ⟨gx, 0, none⟩) c w6 w7 hT6 HHX.out hsame).mono ?_
      rintro e w' ⟨rfl, h1, h2⟩
      have h3 := hTU mv w' h2
      rw [HGX.out, upd_self, hMe] at h3
      exact ⟨rfl, mv, gb, h1.more (Nat.le_succ _) (by omega), h3⟩
    · refine (keep_any base tb N mv T gb x M gx c w6 w7 hT6 HHX.out (by omega) hMe (by rw [HMM.out]; exact HRI.out) (by rw [← HML.out]; have := HSMA.out; omega) (Nat.le_trans (Nat.le_trans HT.out.lo (Nat.le_of_lt HLT.out)) (Nat.le_trans HB6.out.size hg7.size)) hsame HO7.out (fun y hy hyx hty q => hT6.apart y x hy HHX.out hyx hty (by rw [HL.out]; exact HTN.out) (by rw [q, HGX.out]))).mono ?_
      rintro e w' ⟨rfl, mv', h1, h2⟩
      exact ⟨rfl, mv', _, h1, hTU mv' w' h2⟩)
  clear hT6 hg7 hown hsame hTU
  refine HKK.out.mono ?_
  rintro e w8 ⟨rfl, h8⟩
  have H8 := Lib.hid h8
  clear h8
  go_wp2_with fail
  go_ret
  refine ⟨rfl, ?_⟩
  rw [← HMM.out]
  exact H8.out
end Go.Proofs.YtinkpeliinofoaaDoor.Wn
