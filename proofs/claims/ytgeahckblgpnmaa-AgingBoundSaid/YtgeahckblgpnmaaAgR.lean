/-
  Layer 12: the document's queue: next, Next, out, Add, Take, Drop.
-/
import Derived.Test.YtgeahckblgpnmaaAgG
set_option linter.unusedVariables false
set_option maxRecDepth 100000
namespace Go.Proofs.Ytgeahckblgpnmaa
namespace Ag
open Go.RowKit Go.Maps Bk

/-- The document's queue lies in block g; those that wait are the call's own. -/
structure RQ (w : World) (base g : Nat) (v : Value) (s : Int) (d : Nat) (L : List Wr) : Prop where
  box : w.heap[g]? = some (.cells #[v, .int .i64 (d : Int), .int .i64 s] 31 (0, 0))
  own : Ww w base v L
  lo : base ≤ g
  ok : Qi s d L
section
variable {w w' : World} {base g : Nat} {v v' : Value} {s : Int} {d d' : Nat} {L M : List Wr}
theorem RQ.lt (h : RQ w base g v s d L) : g < w.heap.size := lt_of_heap h.box
theorem RQ.blocks (h : RQ w base g v s d L) : ∀ k, QF g v k → base ≤ k ∧ k < w.heap.size := by
  rintro k (rfl | hk)
  · exact ⟨h.lo, h.lt⟩
  · exact ⟨(h.own.kind k hk).2.1, (h.own.kind k hk).1⟩
theorem RQ.same (h : RQ w base g v s d L) (hb : ∀ k, QF g v k → w'.heap[k]? = w.heap[k]?) : RQ w' base g v s d L :=
  ⟨(hb g (.inl rfl)).trans h.box, h.own.same (fun k hk => hb k (.inr hk)), h.lo, h.ok⟩
theorem RQ.later (h : RQ w base g v s d L) (hb : Below w.heap.size w w') : RQ w' base g v s d L := h.same fun k hk => hb.block k (h.blocks k hk).2
theorem RQ.turn {F F' : Nat → Prop} (h : RQ w base g v s d L) (ht : Turn F F' w w') (hd : ∀ k, QF g v k → ¬ F k) : RQ w' base g v s d L := h.same fun k hk => ht.block k (h.blocks k hk).2 (hd k hk)
theorem RQ.cells (h : RQ w base g v s d L) : w.cell? ⟨g, 0, none⟩ = some v ∧ w.cell? ⟨g, 1, none⟩ = some (.int .i64 (d : Int)) ∧ w.cell? ⟨g, 2, none⟩ = some (.int .i64 s) ∧ w.frozen? ⟨g, 0, none⟩ = false ∧ w.frozen? ⟨g, 1, none⟩ = false :=
  ⟨by rw [cell_of_row w g 0 _ _ _ h.box]; rfl, by rw [cell_of_row w g 1 _ _ _ h.box]; rfl, by rw [cell_of_row w g 2 _ _ _ h.box]; rfl, frozen_of_row w g 0 _ _ h.box, frozen_of_row w g 1 _ _ h.box⟩
theorem RQ.form (h : RQ w base g v s d L) : ∃ A n c, v = .slice A n c ∧ n = L.length := h.own.form
theorem RQ.new (w : World) (base : Nat) (hb : base ≤ w.heap.size) (h0 : 0 ≤ s) (h1 : s ≤ 1000) : RQ (w.alloc (.cells #[.slice none 0 0, .int .i64 0, .int .i64 s] 31)) base w.heap.size (.slice none 0 0) s 0 [] :=
  ⟨heap_alloc_new w _, Ww.nil _ _, hb, Qi.nil h0 h1⟩
theorem RQ.apart (h : RQ w base g v s d L) : v.ownBlock ≠ some g := by
  intro e
  obtain ⟨_, _, c, fz, hh⟩ := h.own.kind g e
  have := hh.symm.trans h.box
  injection this with this
  injection this with _ this _
  revert this
  decide
theorem RQ.turned (h : RQ w base g v s d L) (o : Ww w' base v' M) (ok : Qi s d M) (hb : w'.heap[g]? = w.heap[g]?) : RQ (w'.setCell ⟨g, 0, none⟩ v') base g v' s d M := by
  have hv' : v'.ownBlock ≠ some g := by
    intro e
    obtain ⟨_, _, c, fz, hh⟩ := o.kind g e
    have := hh.symm.trans (hb.trans h.box)
    injection this with this
    injection this with _ this _
    revert this
    decide
  refine ⟨?_, o.same (fun k hk => Below.heap_setCell _ _ _ _ (fun e => hv' (by rw [hk]; exact congrArg some e))), h.lo, ok⟩
  rw [heap_setCell_same w' g 0 _ _ _ (hb.trans h.box)]
  rfl
end
/-- What an act answers, and leaves. -/
def RTold (a : Value) (base g : Nat) (v : Value) (s : Int) (d : Nat) (L : List Wr) (w : World) (e : Ending) (w' : World) : Prop := ∃ v', e = .returned a ∧ RQ w' base g v' s d L ∧ Turn (QF g v) (QF g v') w w'
theorem RTold.lift {a : Value} {base g : Nat} {v v1 : Value} {s : Int} {d : Nat} {L : List Wr} {w w1 : World} {e : Ending} {w' : World} (ht : Turn (QF g v) (QF g v1) w w1) (h : RTold a base g v1 s d L w1 e w') : RTold a base g v s d L w e w' := by
  obtain ⟨v', h1, h2, h3⟩ := h
  exact ⟨v', h1, h2, ht.trans h3⟩
theorem RTold.ret {a : Value} {base g : Nat} {v : Value} {d : Nat} {L : List Wr} {w w4 : World} {e : Ending} {s : Int} (h : RTold a base g v s d L w e w4) : e = .returned a := by
  obtain ⟨v', h1, _, _⟩ := h; exact h1
theorem ret_int {a b : Int} (h : a = b) : Ending.returned (.int .i64 a) = .returned (.int .i64 b) := by rw [h]
set_option maxHeartbeats 4000000 in
theorem rnext_any {w : World} {base g : Nat} {v : Value} {s : Int} {d : Nat} {L : List Wr} (h : RQ w base g v s d L) :
    Calls Try.prog 25 #[.pointer (some ⟨g, 0, none⟩)] w fun e w' => e = .returned (.int .i64 (nx s L)) ∧ Below w.heap.size w w' := by
  obtain ⟨A, n, c, rfl, hn⟩ := h.form
  have HQ := Lib.hid h
  have HN := Lib.hid hn
  have hs := Gt.size (h.own.wg).2
  have hs1 := hs.1
  have hs2 := hs.2
  have hf : n ≤ 64 := by rw [hn]; exact h.ok.few
  clear h hn hs
  go_enter Try.func25, Try.ntmps25
  go_wp2_with fail
  go_loopw [3, 4] (fun bv iv wr => ∃ j : Nat, iv = .int .i64 (j : Int) ∧ bv = .int .i64 (hi L j) ∧ j ≤ n ∧ Hid (∀ t, t < j → ¬ due s (wat L t)) ∧ Below w.heap.size w wr) (fun _ iv _ => n - (intOf iv).toNat)
  case atStart => exact ⟨0, rfl, rfl, Nat.zero_le _, Lib.hid (fun t ht => by omega), Below.refl _ _⟩
  case round =>
    rename World => wr
    obtain ⟨j, rfl, rfl, hj, HD, hb⟩ := hrel
    have HB := Lib.hid hb
    obtain ⟨q0, q1, q2, -, -⟩ := (HQ.out.later hb).cells
    clear hb
    by_cases hlj : j < n
    · have k1' : Wg wr.heap.size wr A n c L := ((HQ.out.later HB.out).own.wg).2
      obtain ⟨g1, o1, hA, hg1, k1, k2, k3⟩ := k1'.cell hlj
      have hjI : (j : Int) < (n : Int) := by omega
      have hjL : j < L.length := by rw [← HN.out]; exact hlj
      have hp := HQ.out.ok.prio _ (wat_mem hjL)
      have hsm := HQ.out.ok.small (wat_mem hjL)
      have hp0 : 0 ≤ (wat L j).2.1 := hp.1
      have hp1 : (wat L j).2.1 ≤ 5 := hp.2
      have hm0 : 0 ≤ s * (5 - (wat L j).2.1) := hsm.1
      have hm1 : s * (5 - (wat L j).2.1) ≤ 5000 := hsm.2
      have r := hi_rng L j
      have HE : Hid (hi L (j + 1) = if hi L j < 0 ∨ (wat L (hi L j).toNat).2.1 < (wat L j).2.1 then (j : Int) else hi L j) := Lib.hid rfl
      have HDU : Hid (due s (wat L j) ↔ s * (5 - (wat L j).2.1) ≤ (wat L j).2.2) := Lib.hid Iff.rfl
      have HNX : Hid (due s (wat L j) → nx s L = j) := Lib.hid (fun q => nx_due hjL q HD.out)
      clear hp hsm
      obtain ⟨i, hi'⟩ : ∃ i : Int, i = hi L j := ⟨_, rfl⟩
      rw [← hi'] at r HE ⊢
      by_cases hdu : s * (5 - (wat L j).2.1) ≤ (wat L j).2.2
      · have dD : decide (s * (5 - (wat L j).2.1) ≤ (wat L j).2.2) = true := decide_eq_true hdu
        have HX := Lib.hid (HNX.out (HDU.out.2 hdu))
        clear hdu k1' HNX HE HDU hi'
        subst hA
        generalize (wat L j).1 = x1 at *
        generalize (wat L j).2.1 = x2 at *
        generalize (wat L j).2.2 = x3 at *
        go_wp2_with fail
        go_big_quiet (fail)
        go_wp2_with fail
        go_ret
        exact ⟨ret_int HX.out.symm, HB.out.trans (Bk.below_drewN _ _ _)⟩
      · have dD : decide (s * (5 - (wat L j).2.1) ≤ (wat L j).2.2) = false := decide_eq_false hdu
        have HD' : Hid (∀ t, t < j + 1 → ¬ due s (wat L t)) := Lib.hid (fun t ht => by
          rcases Nat.lt_or_ge t j with q | q
          · exact HD.out t q
          · obtain rfl : t = j := by omega
            exact fun q2 => hdu (HDU.out.1 q2))
        by_cases h0 : i < 0
        · have d0 : decide (i < 0) = true := decide_eq_true h0
          have HE' : Hid (hi L (j + 1) = (j : Int)) := Lib.hid (by rw [HE.out, if_pos (.inl h0)])
          clear HE hi' k1' hdu HDU HNX
          subst hA
          generalize (wat L j).1 = x1 at *
          generalize (wat L j).2.1 = x2 at *
          generalize (wat L j).2.2 = x3 at *
          go_wp2_with fail
          go_big_quiet (fail)
          go_wp2_with fail
          go_big_quiet (fail)
          go_wp2_with fail
          go_roundw
          case rel => exact ⟨j + 1, by go_num, by rw [HE'.out], by omega, HD', HB.out.trans (Bk.below_drewN _ _ _)⟩
          case measure => simp [intOf]; omega
        · have d0 : decide (i < 0) = false := decide_eq_false h0
          obtain ⟨m, rfl⟩ := Int.eq_ofNat_of_zero_le (show 0 ≤ i by omega)
          have hm : m < n := by omega
          obtain ⟨g2, o2, hA2, hg2, z1, z2, z3⟩ := k1'.cell hm
          rw [hA] at hA2
          obtain ⟨rfl, rfl⟩ : g1 = g2 ∧ o1 = o2 := by injection hA2 with e; injection e with e1 e2; exact ⟨e1, e2⟩
          have hmI : (m : Int) < (n : Int) := by omega
          subst hA
          clear hA2 z1 z3
          rw [Int.toNat_natCast] at HE
          by_cases h1 : (wat L m).2.1 < (wat L j).2.1
          · have d1 : decide ((wat L m).2.1 < (wat L j).2.1) = true := decide_eq_true h1
            have HE' : Hid (hi L (j + 1) = (j : Int)) := Lib.hid (by rw [HE.out, if_pos (.inr h1)])
            clear HE hi' k1' h1 hdu HDU HNX
            generalize (wat L j).1 = x1 at *
            generalize (wat L j).2.1 = x2 at *
            generalize (wat L j).2.2 = x3 at *
            generalize (wat L m).2.1 = y at *
            go_wp2_with fail
            go_big_quiet (fail)
            go_wp2_with fail
            go_big_quiet (fail)
            go_wp2_with fail
            go_roundw
            case rel => exact ⟨j + 1, by go_num, by rw [HE'.out], by omega, HD', HB.out.trans (Bk.below_drewN _ _ _)⟩
            case measure => simp [intOf]; omega
          · have d1 : decide ((wat L m).2.1 < (wat L j).2.1) = false := decide_eq_false h1
            have HE' : Hid (hi L (j + 1) = (m : Int)) := Lib.hid (by rw [HE.out, if_neg (by rintro (q | q); exact h0 q; exact h1 q)])
            clear HE hi' k1' h1 hdu HDU HNX
            generalize (wat L j).1 = x1 at *
            generalize (wat L j).2.1 = x2 at *
            generalize (wat L j).2.2 = x3 at *
            generalize (wat L m).2.1 = y at *
            go_wp2_with fail
            go_big_quiet (fail)
            go_wp2_with fail
            go_big_quiet (fail)
            go_wp2_with fail
            go_roundw
            case rel => exact ⟨j + 1, by go_num, by rw [HE'.out], by omega, HD', HB.out.trans (Bk.below_drewN _ _ _)⟩
            case measure => simp [intOf]; omega
    · obtain rfl : j = n := by omega
      have HX : Hid (hi L j = nx s L) := Lib.hid (by
        have e : hi L L.length = nx s L := (nx_hi (fun t ht => HD.out t (by rw [HN.out]; exact ht))).symm
        rw [HN.out]; exact e)
      rw [HX.out]
      go_wp2_with fail
      go_ret
      exact ⟨rfl, HB.out⟩
set_option maxHeartbeats 1000000 in
/-- Next. -/
theorem rNext_any {w : World} {base g : Nat} {v : Value} {s : Int} {d : Nat} {L : List Wr} (h : RQ w base g v s d L) : Calls Try.prog 19 #[.pointer (some ⟨g, 0, none⟩)] w fun e w' => e = .returned (nxV s L) ∧ Below w.heap.size w w' := by
  have HN := Lib.hid (rnext_any h)
  obtain ⟨A, n, c, rfl, hn⟩ := h.form
  have HQ := Lib.hid (fun wx (hb : Below w.heap.size w wx) => (h.later hb).cells.1)
  have HG := Lib.hid (fun wx (hb : Below w.heap.size w wx) => (h.own.wg).2.later hb)
  have r := nx_rng s L
  have HV : Hid (nxV s L = if nx s L < 0 then .tuple #[.int .i64 0, .bool false] else .tuple #[.int .i64 (wat L (nx s L).toNat).1, .bool true]) := Lib.hid (by
    unfold nxV nxN nxB
    split
    · rename_i q; simp [q]
    · rename_i q; simp [q])
  rw [HV.out]
  clear h HV
  obtain ⟨i, hi⟩ : ∃ i : Int, i = nx s L := ⟨_, rfl⟩
  rw [← hi] at r HN ⊢
  clear hi
  by_cases h0 : i < 0
  · have d0 : decide (i < 0) = true := decide_eq_true h0
    rw [if_pos h0]
    go_enter Try.func19, Try.ntmps19
    go_wp2_with fail
    refine HN.out.mono ?_
    rintro e w1 ⟨rfl, hb⟩
    have HB := Lib.hid hb
    clear hb HN
    go_wp2_with fail
    go_ret2
    exact ⟨rfl, HB.out⟩
  · have d0 : decide (i < 0) = false := decide_eq_false h0
    rw [if_neg h0]
    obtain ⟨m, rfl⟩ := Int.eq_ofNat_of_zero_le (show 0 ≤ i by omega)
    have hm : m < n := by omega
    have hmI : (m : Int) < (n : Int) := by omega
    rw [Int.toNat_natCast]
    obtain ⟨x, hx⟩ : ∃ x, x = (wat L m).1 := ⟨_, rfl⟩
    rw [← hx]
    have HXX := Lib.hid hx
    clear hn r hx
    go_enter Try.func19, Try.ntmps19
    go_wp2_with fail
    refine HN.out.mono ?_
    rintro e w1 ⟨rfl, hb⟩
    have HB := Lib.hid hb
    clear hb HN
    have hs := Gt.size (HG.out w1 HB.out)
    have hs1 := hs.1
    have hs2 := hs.2
    obtain ⟨g1, o1, rfl, -, k1, -, -⟩ := (HG.out w1 HB.out).cell hm
    have q2 := HQ.out w1 HB.out
    rw [← HXX.out] at k1
    clear hs
    go_wp2_with fail
    go_ret2
    exact ⟨rfl, HB.out⟩
end Ag
end Go.Proofs.Ytgeahckblgpnmaa
