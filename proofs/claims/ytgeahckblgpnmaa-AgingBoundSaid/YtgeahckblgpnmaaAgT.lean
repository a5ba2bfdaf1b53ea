/-
  Layer 12: the document's queue: Add, Take, Drop.
-/
import Derived.Test.YtgeahckblgpnmaaAgS
import Derived.Test.YtgeahckblgpnmaaAgE
set_option linter.unusedVariables false
set_option maxRecDepth 100000
namespace Go.Proofs.Ytgeahckblgpnmaa
namespace Ag
open Go.RowKit Go.Maps Bk

theorem step_app_waits {w : World} {ops : Array Oper} {o : Oper} {a : Go.Act} {K : Go.Act → World → Prop} {Q : Exit → Go.Act → World → Prop} {F : Prop} (hgd : o.guard = none) (s x : Operand)
    (ho : o.op = .call { callee := .builtin .append, args := #[s, x], argTypes := #[29, 29] })
    (base : Nat) (v : Value) (xs : List Wr) (hs : a.eval s = v) (hown : Ww w base v xs)
    (A : Option Addr) (m c : Nat) (ys : List Wr) (hx : a.eval x = .slice A m c) (hr : Wg w.heap.size w A m c ys) (hb : xs.length + m ≤ 1000000) (hbase : base ≤ w.heap.size)
    (h : ∀ A' n' c' w', n' = (xs ++ ys).length → Ww w' base (.slice A' n' c') (xs ++ ys) → w.grownBy w' v.ownBlock → ((Value.slice A' n' c').ownBlock = v.ownBlock ∨ (Value.slice A' n' c').ownBlock = some w.heap.size) → K (a.put o.dst (.slice A' n' c')) w') : if Region.wanted o (yielded ops a.tmps) = true then Oper.wp Try.prog o a w K Q else F := by
  have hw : Region.wanted o (yielded ops a.tmps) = true := by simp [Region.wanted, hgd]
  rw [if_pos hw]
  obtain ⟨A', n', c', w', hrun, h1, h2, h3, h4⟩ := run_app_waits o.type base v xs hown A m c ys hr hb hbase
  unfold Oper.wp execOp
  simp only [ho, resolve, invoke, builtin, Sem.run_bind, Sem.run_pure, Result.andThen_ok, List.map_toArray, List.map_cons, List.map_nil, hs, hx, hrun]
  exact h A' n' c' w' h1 h2 h3 h4
theorem RQ.count {w : World} {base g : Nat} {v : Value} {s : Int} {d d' : Nat} {L : List Wr} (h : RQ w base g v s d L) (e : Int) (he : e = ((d' : Nat) : Int)) (ok : Qi s d' L) : RQ (w.setCell ⟨g, 1, none⟩ (.int .i64 e)) base g v s d' L := by
  subst he
  refine ⟨?_, h.own.same (fun k hk => Below.heap_setCell _ _ _ _ (fun e => h.apart (by rw [hk]; exact congrArg some e))), h.lo, ok⟩
  rw [heap_setCell_same w g 1 _ _ _ h.box]
  rfl
theorem RQ.added {w w' : World} {base g : Nat} {v v' : Value} {s : Int} {d d' : Nat} {L M : List Wr} (h : RQ w base g v s d L) (o : Ww w' base v' M) (ok : Qi s d' M) (hb : w'.heap[g]? = w.heap[g]?) {e : Int} (he : e = ((d' : Nat) : Int)) : RQ ((w'.setCell ⟨g, 0, none⟩ v').setCell ⟨g, 1, none⟩ (.int .i64 e)) base g v' s d' M := by
  subst he
  have hv' : v'.ownBlock ≠ some g := by
    intro e
    obtain ⟨_, _, c, fz, hh⟩ := o.kind g e
    have := hh.symm.trans (hb.trans h.box)
    injection this with this
    injection this with _ this _
    revert this
    decide
  refine ⟨?_, o.same (fun k hk => ?_), h.lo, ok⟩
  · have k1 := heap_setCell_same w' g 0 _ _ v' (hb.trans h.box)
    rw [heap_setCell_same _ g 1 _ _ _ k1]
    rfl
  · have hne : k ≠ g := fun e => hv' (by rw [hk]; exact congrArg some e)
    exact (Below.heap_setCell _ _ _ _ hne).trans (Below.heap_setCell _ _ _ _ hne)
set_option maxHeartbeats 4000000 in
theorem rAdd_any {w : World} {base g : Nat} {v : Value} {s : Int} {d : Nat} {L : List Wr} (h : RQ w base g v s d L) (hd : d ≤ 1000000) (hbw : base ≤ w.heap.size) (p : Int) :
    Calls Try.prog 13 #[.pointer (some ⟨g, 0, none⟩), .int .i64 p] w (RTold (.tuple #[.int .i64 (adN p d L), .int .i64 (adE p L)]) base g v s (adD p d L) (adL p d L) w) := by
  by_cases h0 : p < 0
  · have hE : adE p L = 1 := by unfold adE; rw [if_pos (.inl h0)]
    have hN : adN p d L = 0 := by unfold adN; rw [if_pos (.inl h0)]
    have hD : adD p d L = d := by unfold adD; rw [hE]; rfl
    have hL : adL p d L = L := by unfold adL; rw [hE]; rfl
    rw [hE, hN, hD, hL]
    have HQ := Lib.hid h
    have d0 : decide (p < 0) = true := decide_eq_true h0
    clear h hE hN hD hL
    go_enter Try.func13, Try.ntmps13
    go_wp2_with fail
    go_ret2
    exact ⟨v, rfl, HQ.out, Turn.refl _ _⟩
  have d0 : decide (p < 0) = false := decide_eq_false h0
  by_cases h5 : 5 < p
  · have hE : adE p L = 1 := by unfold adE; rw [if_pos (.inr h5)]
    have hN : adN p d L = 0 := by unfold adN; rw [if_pos (.inr h5)]
    have hD : adD p d L = d := by unfold adD; rw [hE]; rfl
    have hL : adL p d L = L := by unfold adL; rw [hE]; rfl
    rw [hE, hN, hD, hL]
    have HQ := Lib.hid h
    have d1 : decide (5 < p) = true := decide_eq_true h5
    clear h hE hN hD hL
    go_enter Try.func13, Try.ntmps13
    go_wp2_with fail
    go_ret2
    exact ⟨v, rfl, HQ.out, Turn.refl _ _⟩
  have d1 : decide (5 < p) = false := decide_eq_false h5
  obtain ⟨A, n, c, rfl, hn⟩ := h.form
  obtain ⟨c0, c1, -, f0, f1⟩ := h.cells
  have hs := Gt.size (h.own.wg).2
  have hs1 := hs.1
  have hs2 := hs.2
  by_cases h6 : 64 ≤ L.length
  · have hE : adE p L = 4 := by unfold adE; rw [if_neg (by omega), if_pos h6]
    have hN : adN p d L = 0 := by unfold adN; rw [if_neg (by omega), if_pos h6]
    have hD : adD p d L = d := by unfold adD; rw [hE]; rfl
    have hL : adL p d L = L := by unfold adL; rw [hE]; rfl
    rw [hE, hN, hD, hL]
    have HQ := Lib.hid h
    have d2 : decide ((64 : Int) ≤ (n : Int)) = true := decide_eq_true (by omega)
    clear h hE hN hD hL hn hs
    go_enter Try.func13, Try.ntmps13
    go_wp2_with fail
    go_ret2
    exact ⟨_, rfl, HQ.out, Turn.refl _ _⟩
  · have hE : adE p L = 0 := adE_zero.2 ⟨by omega, by omega⟩
    have hN : adN p d L = (d : Int) := by unfold adN; rw [if_neg (by omega), if_neg h6]
    have hD : adD p d L = d + 1 := by unfold adD; rw [hE]; rfl
    have hL : adL p d L = L ++ [((d : Int), p, 0)] := by unfold adL; rw [hE]; rfl
    have hok := h.ok.add p
    rw [hD, hL] at hok
    rw [hE, hN, hD, hL]
    have d2 : decide ((64 : Int) ≤ (n : Int)) = false := decide_eq_false (by omega)
    have hA := (Below.refl w.heap.size w).alloc (Nat.le_refl _) (.cells #[.int .i64 (d : Int), .int .i64 p, .int .i64 0] 46)
    have HQ := Lib.hid h
    have HQA := Lib.hid ((h.later hA).later ((Below.refl (w.alloc (.cells #[.int .i64 (d : Int), .int .i64 p, .int .i64 0] 46)).heap.size _).drew))
    obtain ⟨e0, e1, -, -, -⟩ := (h.later hA).cells
    have HOWA : Hid (Ww (w.alloc (.cells #[.int .i64 (d : Int), .int .i64 p, .int .i64 0] 46)).drew base (.slice A n c) L) := Lib.hid ((h.later hA).own.later ((Below.refl _ _).drew))
    have HTA : Hid (Turn (QF g (.slice A n c)) (QF g (.slice A n c)) w (w.alloc (.cells #[.int .i64 (d : Int), .int .i64 p, .int .i64 0] 46)).drew) := Lib.hid (Turn.ofBelow (hA.trans ((Below.refl _ _).drew)) _)
    have HZA : Hid (w.heap.size ≤ (w.alloc (.cells #[.int .i64 (d : Int), .int .i64 p, .int .i64 0] 46)).drew.heap.size) := Lib.hid (by show w.heap.size ≤ (w.alloc _).heap.size; simp)
    have HOne : Hid (Wg (w.alloc (.cells #[.int .i64 (d : Int), .int .i64 p, .int .i64 0] 46)).drew.heap.size (w.alloc (.cells #[.int .i64 (d : Int), .int .i64 p, .int .i64 0] 46)).drew (some ⟨w.heap.size, 0, none⟩) 1 1 [((d : Int), p, 0)]) := Lib.hid ((Wg.one w (d : Int) p 0).later ((Below.refl _ _).drew))
    have HOK := Lib.hid hok
    have HLN : Hid (L.length < 64) := Lib.hid (by omega)
    have HBW : Hid (base ≤ (w.alloc (.cells #[.int .i64 (d : Int), .int .i64 p, .int .i64 0] 46)).heap.size) := Lib.hid (by simp; omega)
    have hdI : (d : Int) ≤ 1000000 := by omega
    clear h hE hN hD hL hn hs hok hA h6
    go_enter Try.func13, Try.ntmps13
    go_wp2_with fail
    go_region_law (refine step_app_waits rfl (.tmp 22) (.tmp 29) rfl base (.slice A n c) L (by simp [Go.Act.eval]) HOWA.out (some ⟨w.heap.size, 0, none⟩) 1 1 [((d : Int), p, 0)] (by simp [Go.Act.eval]) HOne.out (by have := HLN.out; omega) HBW.out ?_; intro A3 n3 c3 w3 hn3 ho3 hg3 hx3; obtain ⟨kf, kc, kd, kfd, -⟩ := rkeep HQA.out HQA.out.apart hg3; have HN3 := Lib.hid hn3; have HO3 := Lib.hid ho3; have HG3 := Lib.hid hg3; have HX3 := Lib.hid hx3; clear hn3 ho3 hg3 hx3)
    all_goals go_wp2_with fail
    all_goals go_ret2
    all_goals
      have hb3 := (rkeep HQA.out HQA.out.apart HG3.out).2.2.2.2
      refine ⟨_, rfl, HQA.out.added HO3.out HOK.out hb3 rfl, ?_⟩
      have t3 : Turn (QF g (.slice A n c)) (QF g (.slice A n c)) w w3 := HTA.out.trans (Turn.grown HG3.out (fun k hk => .inr hk))
      refine ((t3.put (b := g) (o := 0) (.slice A3 n3 c3) (.inl rfl)).put (b := g) (o := 1) (.int .i64 ((d : Int) + 1)) (.inl rfl)).sub ?_
      rintro k (rfl | hk)
      · exact .inl (.inl rfl)
      · rcases HX3.out with e | e
        · exact .inl (.inr (e.symm.trans hk))
        · rw [e] at hk
          injection hk with hk
          have := HZA.out
          exact .inr (by omega)
/-- One of them is bypassed once more. -/
theorem RQ.bumped {w : World} {base g g1 n c : Nat} {s : Int} {d : Nat} {L : List Wr} (h : RQ w base g (.slice (some ⟨g1, 0, none⟩) n c) s d L) {i : Nat} (hi : i < L.length) (b : Int) (ok : Qi s d (L.set i ((wat L i).1, (wat L i).2.1, b))) :
    RQ (w.setCell ⟨g1, i * 3 + 2, none⟩ (.int .i64 b)) base g (.slice (some ⟨g1, 0, none⟩) n c) s d (L.set i ((wat L i).1, (wat L i).2.1, b)) := by
  have hne : g1 ≠ g := fun e => h.apart (by rw [← e]; rfl)
  exact ⟨(Below.heap_setCell _ _ _ _ (fun e => hne e.symm)).trans h.box, h.own.put hi b, h.lo, ok⟩
end Ag
end Go.Proofs.Ytgeahckblgpnmaa
