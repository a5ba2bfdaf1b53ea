/-
  The heap: an item is pushed.
-/
import Derived.Test.YtbpcigcfdkamaaaHpW3
import Derived.Deep.CutRange
import Derived.Deep.DeepCutAuto
set_option linter.unusedVariables false
set_option maxRecDepth 100000
namespace Go.Proofs.Ytbpcigcfdkamaaa
open Go.RowKit E

theorem push_nil (x y : Int) (w : World) : Calls Try.prog 15 #[.pointer none, .agg #[.int .i64 x, .int .i64 y]] w fun e w' => e = .returned (.tuple #[]) ∧ Below w.heap.size w w' := by
  have HB : Hid (∀ x : Obj, Below w.heap.size w (w.alloc x)) := Lib.hid fun x => (Below.refl _ w).alloc (Nat.le_refl _) _
  go_enter Try.func15, Try.ntmps15
  go_wp2
  exact bodyPost_ret (v := .tuple #[]) (by simp [results, Try.results15, go_sem]) rfl ⟨rfl, HB.out _⟩

/-- An entry was appended to the heap's tree, which lies now at block g. -/
structure Pushed (w : World) (b : Nat) (v : Value) (n : Nat) (l : List E) (g c : Nat) (wc : World) : Prop where
  box : wc.heap[b]? = some (.cells #[.slice (some ⟨g, 0, none⟩) l.length c, .int .i64 (n : Int)] 52 (0, 0))
  row : wc.ownsRow (b + 1) 54 3 (.slice (some ⟨g, 0, none⟩) l.length c) l.length (ec l)
  turn : Turn (HF b v) (HF b (.slice (some ⟨g, 0, none⟩) l.length c)) w wc

theorem pushed_of {w w6 : World} {X Y : Obj} {b n g c : Nat} {v : Value} {es : List E} {x y : Int} (hb : w.heap[b]? = some (.cells #[v, .int .i64 (n : Int)] 52 (0, 0))) (hne : some b ≠ v.ownBlock)
    (ho : w6.ownsRow (b + 1) 54 3 (.slice (some ⟨g, 0, none⟩) (es.length + 1) c) (es.length + 1) (ec es ++ [.int .i64 x, .int .i64 y, .int .i64 (n : Int)]))
    (hg : ((w.alloc X).alloc Y).drew.grownBy w6 v.ownBlock) (hat : v.ownBlock = some g ∨ g = w.heap.size + 2) :
    Pushed w b v n (es ++ [⟨x, y, n⟩]) g c (w6.setCell ⟨b, 0, none⟩ (.slice (some ⟨g, 0, none⟩) (es.length + 1) c)) := by
  have hlb := lt_of_heap hb
  have hbox : w6.heap[b]? = some (.cells #[v, .int .i64 (n : Int)] 52 (0, 0)) := by
    rw [hg.block b (by simp [World.drew]; omega) hne]
    show ((w.alloc X).alloc Y).heap[b]? = _
    rw [Below.heap_alloc _ _ _ (by simp; omega), Below.heap_alloc _ _ _ hlb]; exact hb
  have hgb := (ho.lt g rfl).1
  have hl : (es ++ [(⟨x, y, n⟩ : E)]).length = es.length + 1 := by simp
  refine ⟨?_, ?_, ?_⟩
  · have := heap_setCell_same w6 b 0 _ _ (.slice (some ⟨g, 0, none⟩) (es.length + 1) c) hbox
    rw [hl, this]; simp
  · rw [hl, ec_app]
    exact ownsRow_setCell_below ho (a := ⟨b, 0, none⟩) (by simp) _
  · have t1 : Turn (HF b v) (HF b v) w ((w.alloc X).alloc Y).drew := (((Turn.refl _ w).more X).more Y).drew
    have t2 : Turn (HF b v) (HF b v) w w6 := t1.trans (Turn.grown hg (fun k hk => .inr hk))
    have t3 : Turn (HF b v) (HF b (.slice (some ⟨g, 0, none⟩) (es.length + 1) c)) w w6 := t2.sub fun k hk => by
      rcases hk with hk | hk
      · exact .inl (.inl hk)
      · have : k = g := by simpa [Value.ownBlock] using hk.symm
        subst this
        rcases hat with e | e
        · exact .inl (.inr e)
        · exact .inr (by omega)
    rw [hl]
    exact t3.put _ (.inl rfl)

theorem pushed_end {w wc w7 w8 : World} {b n g c : Nat} {v : Value} {M es l' : List E} {x y : Int} (ha : Abs es M n) (hf : M.length ≤ n ∧ n < 1000000) (hp : Pushed w b v n (es ++ [⟨x, y, n⟩]) g c wc)
    (h7 : w7 = wc.setCell ⟨b, 1, none⟩ (.int .i64 ((n : Int) + 1))) (hs : Stl up (es ++ [⟨x, y, n⟩]) es.length l') (ht : Tree w8 g (es.length + 1) c l') (hw : Turn (OnlyB g) (OnlyB g) w7.drew w8) :
    ∃ v', HAt w8 b v' (ins ⟨x, y, n⟩ M) (n + 1) ∧ Turn (HF b v) (HF b v') w w8 := by
  have hl : (es ++ [(⟨x, y, n⟩ : E)]).length = es.length + 1 := by simp
  obtain ⟨h1, h2, h3⟩ := hp
  rw [hl] at h1 h2 h3
  have hgb := (h2.lt g rfl).1
  have hb7 : w7.heap[b]? = some (.cells #[.slice (some ⟨g, 0, none⟩) (es.length + 1) c, .int .i64 ((n : Int) + 1)] 52 (0, 0)) := by
    rw [h7, heap_setCell_same wc b 1 _ _ _ h1]; simp
  have hlb : b < w7.heap.size := lt_of_heap hb7
  have hb8 : w8.heap[b]? = some (.cells #[.slice (some ⟨g, 0, none⟩) (es.length + 1) c, .int .i64 ((n : Int) + 1)] 52 (0, 0)) := by
    rw [hw.block b hlb (fun e => by unfold OnlyB at e; omega)]; exact hb7
  refine ⟨.slice (some ⟨g, 0, none⟩) (es.length + 1) c, ⟨by rw [hb8]; simp, ⟨l', ha.push rfl hs, ?_⟩, by rw [ins_length]; omega⟩, ?_⟩
  · rw [ht.len]
    obtain ⟨q1, q2⟩ := ht.row
    rcases q2 with ⟨q, _⟩ | ⟨g', cap', cur', q, hg', r⟩
    · cases q
    · have : g' = g := by injection q with q; injection q with q; injection q with q; exact q.symm
      exact ⟨q1, .inr ⟨g', cap', cur', q, by omega, r⟩⟩
  · have t7 : Turn (HF b v) (HF b (.slice (some ⟨g, 0, none⟩) (es.length + 1) c)) w w7.drew := by rw [h7]; exact (h3.put _ (.inl rfl)).drew
    refine t7.trans ⟨hw.os, hw.tape, hw.output, hw.size, fun k hk hn => hw.block k hk (fun e => hn (.inr (by unfold OnlyB at e; rw [e]; rfl))), fun k hk => .inl hk⟩

set_option maxHeartbeats 400000 in
theorem push_any (b : Nat) (v : Value) (M : List E) (n : Nat) (x y : Int) (w : World) (h : HAt w b v M n) (hn : n < 1000000) :
    Calls Try.prog 15 #[.pointer (some ⟨b, 0, none⟩), .agg #[.int .i64 x, .int .i64 y]] w fun e w' => e = .returned (.tuple #[]) ∧ ∃ v', HAt w' b v' (ins ⟨x, y, n⟩ M) (n + 1) ∧ Turn (HF b v) (HF b v') w w' := by
  obtain ⟨i0, hi, hz0, hz1, hz2⟩ := info_parts Try.infoEntry
  obtain ⟨c0, c1, f0, f1⟩ := h.cells
  have hlt := h.lt
  obtain ⟨es, ha, hr⟩ := h.row
  have hl := ha.length
  have hml := h.few.1
  obtain ⟨X, hX⟩ : ∃ X : Obj, X = .cells #[.int .i64 x, .int .i64 y] 32 := ⟨_, rfl⟩
  obtain ⟨Y, hY⟩ : ∃ Y : Obj, Y = .cells #[.int .i64 x, .int .i64 y, .int .i64 (n : Int)] 54 := ⟨_, rfl⟩
  have HL : Hid (((w.alloc X).alloc Y).ownsRow (b + 1) 54 3 v es.length (ec es)) := Lib.hid ((hr.alloc _).alloc _)
  have HN : Hid (∀ j u, ([.int .i64 x, .int .i64 y, .int .i64 (n : Int)] : List Value)[j]? = some u → ((w.alloc X).alloc Y).cell? ((⟨w.heap.size + 1, 0, none⟩ : Addr).add j) = some u) := Lib.hid (by
    intro j u hj
    subst hY
    match j, hj with
    | 0, hj => simp at hj; subst hj; simp [Addr.add]
    | 1, hj => simp at hj; subst hj; simp [Addr.add]
    | 2, hj => simp at hj; subst hj; simp [Addr.add])
  have HC : Hid (∀ u ∈ ([.int .i64 x, .int .i64 y, .int .i64 (n : Int)] : List Value), u.oneCell' = true) := Lib.hid (by intro u hu; simp at hu; rcases hu with rfl | rfl | rfl <;> rfl)
  have HNE : Hid (some b ≠ v.ownBlock) := Lib.hid (fun e => by have := (hr.lt b e.symm).1; omega)
  have HBK : Hid (b < ((w.alloc X).alloc Y).heap.size) := Lib.hid (by simp; omega)
  have HSZ : Hid (b + 1 ≤ ((w.alloc X).alloc Y).heap.size) := Lib.hid (by simp; omega)
  have HC0 : Hid (((w.alloc X).alloc Y).cell? ⟨b, 0, none⟩ = some v) := Lib.hid (((((Below.refl w.heap.size w).alloc (Nat.le_refl _) _).alloc (by simp) _).cell (p := ⟨b, 0, none⟩) hlt).trans c0)
  have HF0 : Hid (((w.alloc X).alloc Y).frozen? ⟨b, 0, none⟩ = false) := Lib.hid (((((Below.refl w.heap.size w).alloc (Nat.le_refl _) _).alloc (by simp) _).frozen (p := ⟨b, 0, none⟩) hlt).trans f0)
  have HH := Lib.hid h
  have HA := Lib.hid ha
  subst hX hY
  clear h hr ha
  go_enter Try.func15, Try.ntmps15
  go_wp2
  go_upto_region 2 with (fail)
  go_cut [18] (fun t wc => ∃ g c, Pushed w b v n (es ++ [⟨x, y, n⟩]) g c wc)
  case first =>
    go_region_law (refine step_append_lies _ (by rfl) _ _ _ (by rfl) (b + 1) 54 i0 _ 3 24 Try.underlying50 hi hz0 hz1 hz2 rfl (by omega) v es.length (ec es) (by rfl) HL.out ⟨w.heap.size + 1, 0, none⟩ 1 1 [.int .i64 x, .int .i64 y, .int .i64 (n : Int)] (by rfl) (by rfl) HN.out HC.out (by omega) (by unfold maxLen; omega) (by omega) HSZ.out (w.heap.size + 2) (by simp) ?_; intro g6 c6 w6 hown6 hgrow6 hat6 hlt6; have d0 := (World.cell?_of_block (a := ⟨b, 0, none⟩) (hgrow6.block b HBK.out HNE.out)).trans HC0.out; have d1 := (World.frozen?_of_block (a := ⟨b, 0, none⟩) (hgrow6.block b HBK.out HNE.out)).trans HF0.out; have HO6 := Lib.hid hown6; have HG6 := Lib.hid hgrow6; clear hown6 hgrow6)
    all_goals (go_wp2_with fail; go_meet; rw [← hl]; exact ⟨g6, c6, pushed_of HH.out.box HNE.out HO6.out HG6.out hat6⟩)
  case rest =>
    obtain ⟨g, c, hP⟩ := hcut
    have hll : (es ++ [(⟨x, y, n⟩ : E)]).length = es.length + 1 := by simp
    have hb0 := hP.box
    rw [hll] at hb0
    have e0 : wc.cell? ⟨b, 0, none⟩ = some (.slice (some ⟨g, 0, none⟩) (es.length + 1) c) := by rw [cell_of_row wc b 0 _ _ _ hb0]; rfl
    have e1 : wc.cell? ⟨b, 1, none⟩ = some (.int .i64 (n : Int)) := by rw [cell_of_row wc b 1 _ _ _ hb0]; rfl
    have k0 := frozen_of_row wc b 0 _ _ hb0
    have k1 := frozen_of_row wc b 1 _ _ hb0
    have hT : Tree wc g (es.length + 1) c (es ++ [⟨x, y, n⟩]) := by
      have hr := hP.row
      rw [hll] at hr
      obtain ⟨q1, q2⟩ := hr
      rcases q2 with ⟨q, _⟩ | ⟨g', cap', cur', q, hg', r⟩
      · cases q
      · exact ⟨⟨q1, .inr ⟨g', cap', cur', q, Nat.zero_le _, r⟩⟩, hll⟩
    have hgb : b < g := (hP.row.lt g rfl).1
    obtain ⟨w7, hw7⟩ : ∃ w7, w7 = wc.setCell ⟨b, 1, none⟩ (.int .i64 ((n : Int) + 1)) := ⟨_, rfl⟩
    have HT7 : Hid (Tree w7.drew g (es.length + 1) c (es ++ [⟨x, y, n⟩])) := Lib.hid (hT.same (by
      rw [hw7]; exact Below.heap_setCell wc _ _ _ (by show g ≠ b; omega)))
    have HW7 := Lib.hid hw7
    have e70 : w7.cell? ⟨b, 0, none⟩ = some (.slice (some ⟨g, 0, none⟩) (es.length + 1) c) := by
      rw [hw7, cell_of_row _ b 0 _ _ _ (heap_setCell_same wc b 1 _ _ (.int .i64 ((n : Int) + 1)) hb0)]; simp
    have hln : es.length ≤ n := by omega
    have HP := Lib.hid hP
    have HLM : Hid (M.length ≤ n ∧ n < 1000000) := Lib.hid ⟨hml, hn⟩
    clear hl hml
    clear hP hT hb0 HN HC HL HNE HBK HSZ HC0 HF0 c0 c1 f0 f1 hll
    go_upto_region 4 with (fail)
    rw [← hw7]
    clear hw7
    go_still_tail 10, (by kernel_rfl)
    change wpList _ _ _ _ _ w7.drew
    go_wp2_with fail
    refine (settle_up up id g (es.length + 1) c es.length _ w7.drew HT7.out (.inl (by omega)) (fun l w i ht hi => above_any g _ c i l w ht (by omega)) (fun l i hl hi hne => by
      obtain ⟨q1, q2, q3⟩ := up_ne hne
      rw [q2]; exact ⟨by omega, by omega, by show (i - 1) / 2 < i; omega⟩)).mono ?_
    rintro e w8 ⟨rfl, l', hs, ht, hw⟩
    have HE := Lib.hid (pushed_end HA.out HLM.out HP.out HW7.out hs ht hw)
    clear hs ht hw HT7 HW7 HP e0 e1 k0 k1 e70
    go_wp2
    go_end0
    exact ⟨rfl, HE.out⟩

end Go.Proofs.Ytbpcigcfdkamaaa
