/-
  Layer 12: Add, leave, Take, Drop.
-/
import Derived.Test.YtgeahckblgpnmaaAgC
set_option linter.unusedVariables false
set_option maxRecDepth 100000
namespace Go.Proofs.Ytgeahckblgpnmaa
namespace Ag
open Go.RowKit Go.Maps Bk

/-- What an act answers, and leaves. -/
def ActTold (a : Value) (base g : Nat) (v : Value) (s : Int) (d : Nat) (L : List Wr) (w : World) (e : Ending) (w' : World) : Prop := ∃ v', e = .returned a ∧ QAt w' base g v' s d L ∧ Turn (QF g v) (QF g v') w w'
section
variable {w w' : World} {base g : Nat} {v v' : Value} {s : Int} {d d' : Nat} {L M : List Wr}
theorem QAt.apart (h : QAt w base g v s d L) : v.ownBlock ≠ some g := by
  intro e
  obtain ⟨_, _, c, fz, hh⟩ := h.own.kind g e
  have := hh.symm.trans h.box
  injection this with this
  injection this with _ this _
  revert this
  decide
/-- The list is another one now, the block of the queue as it was. -/
theorem QAt.turned (h : QAt w base g v s d L) (o : Ww w' base v' M) (ok : Qi s d M) (hb : w'.heap[g]? = w.heap[g]?) (d1 : d' = d) : QAt (w'.setCell ⟨g, 2, none⟩ v') base g v' s d M := by
  have hv' : v'.ownBlock ≠ some g := by
    intro e
    obtain ⟨_, _, c, fz, hh⟩ := o.kind g e
    have := hh.symm.trans (hb.trans h.box)
    injection this with this
    injection this with _ this _
    revert this
    decide
  refine ⟨?_, o.same (fun k hk => Below.heap_setCell _ _ _ _ (fun e => hv' (by rw [hk]; exact congrArg some e))), h.lo, ok⟩
  rw [heap_setCell_same w' g 2 _ _ _ (hb.trans h.box)]
  rfl
theorem QAt.count (h : QAt w base g v s d L) (e : Int) (he : e = ((d' : Nat) : Int)) (ok : Qi s d' L) : QAt (w.setCell ⟨g, 1, none⟩ (.int .i64 e)) base g v s d' L := by
  subst he
  refine ⟨?_, h.own.same (fun k hk => Below.heap_setCell _ _ _ _ (fun e => h.apart (by rw [hk]; exact congrArg some e))), h.lo, ok⟩
  rw [heap_setCell_same w g 1 _ _ _ h.box]
  rfl
end
set_option maxHeartbeats 2000000 in
theorem Add_any {w : World} {base g : Nat} {v : Value} {s : Int} {d : Nat} {L : List Wr} (h : QAt w base g v s d L) (hd : d ≤ 1000000) (hbw : base ≤ w.heap.size) (p : Int) :
    Calls Try.prog 12 #[.pointer (some ⟨g, 0, none⟩), .int .i64 p] w (ActTold (.tuple #[.int .i64 (adN p d L), .int .i64 (adE p L)]) base g v s (adD p d L) (adL p d L) w) := by
  by_cases h0 : p < 0
  · have hE : adE p L = 1 := by unfold adE; rw [if_pos (.inl h0)]
    have hN : adN p d L = 0 := by unfold adN; rw [if_pos (.inl h0)]
    have hD : adD p d L = d := by unfold adD; rw [hE]; rfl
    have hL : adL p d L = L := by unfold adL; rw [hE]; rfl
    rw [hE, hN, hD, hL]
    have HQ := Lib.hid h
    have d0 : decide (p < 0) = true := decide_eq_true h0
    clear h hE hN hD hL
    go_enter Try.func12, Try.ntmps12
    go_wp2_with fail
    go_ret2
    exact ⟨v, rfl, HQ.out, Turn.refl _ _⟩
  have d0 : decide (p < 0) = false := decide_eq_false h0
  by_cases h5 : 5 < p
  · have hE : adE p L = 1 := by unfold adE; rw [if_pos (.inr h5)]
    have hN : adN p d L = 0 := by unfold adN; rw [if_pos (.inr h5)]
    have hD : adD p d L = d := by unfold adD; rw [hE]; rfl
    have hL : adL p d L = L := by unfold adL; rw [hE]; rfl
    rw [hE, hN, hD, hL]
    have HQ := Lib.hid h
    have d1 : decide (5 < p) = true := decide_eq_true h5
    clear h hE hN hD hL
    go_enter Try.func12, Try.ntmps12
    go_wp2_with fail
    go_ret2
    exact ⟨v, rfl, HQ.out, Turn.refl _ _⟩
  have d1 : decide (5 < p) = false := decide_eq_false h5
  obtain ⟨A, n, c, rfl, hn⟩ := h.form
  obtain ⟨c0, c1, c2, f1, f2⟩ := h.cells
  have hs := Gt.size (h.own.wg).2
  have hs1 := hs.1
  have hs2 := hs.2
  by_cases h6 : 64 ≤ L.length
  · have hE : adE p L = 4 := by unfold adE; rw [if_neg (by omega), if_pos h6]
    have hN : adN p d L = 0 := by unfold adN; rw [if_neg (by omega), if_pos h6]
    have hD : adD p d L = d := by unfold adD; rw [hE]; rfl
    have hL : adL p d L = L := by unfold adL; rw [hE]; rfl
    rw [hE, hN, hD, hL]
    have HQ := Lib.hid h
    have d2 : decide ((64 : Int) ≤ (n : Int)) = true := decide_eq_true (by omega)
    clear h hE hN hD hL hn hs
    go_enter Try.func12, Try.ntmps12
    go_wp2_with fail
    go_ret2
    exact ⟨_, rfl, HQ.out, Turn.refl _ _⟩
  · have hE : adE p L = 0 := adE_zero.2 ⟨by omega, by omega⟩
    have hN : adN p d L = (d : Int) := by unfold adN; rw [if_neg (by omega), if_neg h6]
    have hD : adD p d L = d + 1 := by unfold adD; rw [hE]; rfl
    have hL : adL p d L = L ++ [((d : Int), p, 0)] := by unfold adL; rw [hE]; rfl
    have hok := h.ok.add p
    rw [hD, hL] at hok
    rw [hE, hN, hD, hL]
    have d2 : decide ((64 : Int) ≤ (n : Int)) = false := decide_eq_false (by omega)
    have hsz : (w.setCell ⟨g, 1, none⟩ (.int .i64 ((d : Int) + 1))).heap.size = w.heap.size := by simp [World.setCell]
    obtain ⟨w1, hw1⟩ : ∃ w1, w1 = w.setCell ⟨g, 1, none⟩ (.int .i64 ((d : Int) + 1)) := ⟨_, rfl⟩
    rw [← hw1] at hsz
    have hq1 : QAt w1 base g (.slice A n c) s (d + 1) L := by rw [hw1]; exact h.count _ rfl ⟨h.ok.s0, h.ok.s1, h.ok.few, h.ok.ids, fun x hx => by have := h.ok.old x hx; omega, h.ok.prio, h.ok.byp, h.ok.falls⟩
    have ht1 : Turn (QF g (.slice A n c)) (QF g (.slice A n c)) w w1 := by rw [hw1]; exact Turn.setCell w ⟨g, 1, none⟩ _ (.inl rfl)
    have HO : Hid (Wg (w1.alloc (.cells #[.int .i64 (d : Int), .int .i64 p, .int .i64 0] 46)).heap.size (w1.alloc (.cells #[.int .i64 (d : Int), .int .i64 p, .int .i64 0] 46)) (some ⟨w.heap.size, 0, none⟩) 1 1 [((d : Int), p, 0)]) := Lib.hid (by rw [← hsz]; exact Wg.one w1 _ _ _)
    have hb2 : Below w1.heap.size w1 (w1.alloc (.cells #[.int .i64 (d : Int), .int .i64 p, .int .i64 0] 46)) := (Below.refl _ _).alloc (Nat.le_refl _) _
    have hz2 : (w1.alloc (.cells #[.int .i64 (d : Int), .int .i64 p, .int .i64 0] 46)).heap.size = w1.heap.size + 1 := by simp
    have ht2 : Turn (QF g (.slice A n c)) (QF g (.slice A n c)) w (w1.alloc (.cells #[.int .i64 (d : Int), .int .i64 p, .int .i64 0] 46)) := ht1.more _
    obtain ⟨w2, hw2⟩ : ∃ w2, w2 = w1.alloc (.cells #[.int .i64 (d : Int), .int .i64 p, .int .i64 0] 46) := ⟨_, rfl⟩
    rw [← hw2] at HO hb2 hz2 ht2
    have hq2 := hq1.later hb2
    have HQ := Lib.hid hq2
    have HOW := Lib.hid hq2.own
    have HT := Lib.hid ht2
    have HK := Lib.hid hok
    have HZ : Hid (w.heap.size ≤ w2.heap.size ∧ base ≤ w2.heap.size ∧ L.length < 64) := Lib.hid ⟨by omega, by omega, by omega⟩
    have k2 : ∀ w3, w2.grownBy w3 (Value.slice A n c).ownBlock → w3.frozen? ⟨g, 2, none⟩ = false ∧ (∃ u, w3.cell? ⟨g, 2, none⟩ = some u) ∧ w3.heap[g]? = w2.heap[g]? := fun w3 hg => by
      have hb : w3.heap[g]? = w2.heap[g]? := hg.block g hq2.lt (fun e => hq2.apart e.symm)
      have hbx := hb.trans hq2.box
      exact ⟨frozen_of_row w3 g 2 _ _ hbx, ⟨_, cell_of_row w3 g 2 _ _ _ hbx⟩, hb⟩
    have HK2 := Lib.hid k2
    have c2' := hq2.cells.2.2.1
    have c2a := hq1.cells.2.2.1
    clear h hE hN hD hL hn hs hok hsz ht1 hb2 hz2 ht2 hq2 k2 hq1 h6
    go_enter Try.func12, Try.ntmps12
    go_wp2_with (at_builtin; rw [← hw1, ← hw2]; refine app_waits rfl _ _ rfl base _ L rfl HOW.out (some ⟨w.heap.size, 0, none⟩) 1 1 [((d : Int), p, 0)] rfl HO.out (by have := HZ.out.2.2; omega) HZ.out.2.1 ?_; intro A' n' c' w3 hn3 ho3 hb3 hg3 hx3; have HN3 := Lib.hid hn3; have HO3 := Lib.hid ho3; have HG3 := Lib.hid hg3; have HX3 := Lib.hid hx3; obtain ⟨kf, ⟨ku, kc⟩, -⟩ := HK2.out w3 hg3; clear hn3 ho3 hb3 hg3 hx3)
    go_ret2
    have hb3 := (HK2.out w3 HG3.out).2.2
    have hq := HQ.out.turned HO3.out HK.out hb3 rfl
    refine ⟨_, rfl, hq, ?_⟩
    have t3 : Turn (QF g (.slice A n c)) (QF g (.slice A n c)) w w3 := HT.out.trans (Turn.grown HG3.out (fun k hk => .inr hk))
    refine (t3.put (b := g) (o := 2) (.slice A' n' c') (.inl rfl)).sub ?_
    rintro k (rfl | hk)
    · exact .inl (.inl rfl)
    · rcases HX3.out with e | e
      · exact .inl (.inr (e.symm.trans hk))
      · rw [e] at hk
        injection hk with hk
        have := HZ.out.1
        exact .inr (by omega)
end Ag
end Go.Proofs.Ytgeahckblgpnmaa
