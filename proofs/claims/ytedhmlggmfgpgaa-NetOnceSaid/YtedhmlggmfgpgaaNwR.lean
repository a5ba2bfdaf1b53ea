/-
  Layer 13: the document's network in memory; Send, Peek, Take.
-/
import Derived.Test.YtedhmlggmfgpgaaNwH
import Derived.IntWalk
import Derived.Deep.Cut
set_option linter.unusedVariables false
set_option maxRecDepth 100000
namespace Go.Proofs.Ytedhmlggmfgpgaa
namespace Nw
open Go.RowKit Go.Maps Bk

structure RN (w : World) (base q : Nat) (u : Value) (S : List ByteArray) : Prop where
  box : w.heap[q]? = some (.cells #[u] 29 (0, 0))
  own : Sw w base u S
  lo : base ≤ q
  few : S.length ≤ 1024
def RF (q : Nat) (u : Value) (k : Nat) : Prop := k = q ∨ u.ownBlock = some k
section
variable {w w' w1 : World} {base q : Nat} {u u' : Value} {S S' : List ByteArray}
theorem RN.lt (h : RN w base q u S) : q < w.heap.size := lt_of_heap h.box
theorem RN.blocks (h : RN w base q u S) : ∀ k, RF q u k → base ≤ k ∧ k < w.heap.size := by
  rintro k (rfl | hk)
  · exact ⟨h.lo, h.lt⟩
  · exact ⟨(h.own.kind k hk).2.1, (h.own.kind k hk).1⟩
theorem RN.same (h : RN w base q u S) (hb : ∀ k, RF q u k → w'.heap[k]? = w.heap[k]?) : RN w' base q u S :=
  ⟨(hb q (.inl rfl)).trans h.box, h.own.same (fun k hk => hb k (.inr hk)), h.lo, h.few⟩
theorem RN.later (h : RN w base q u S) (hb : Below w.heap.size w w') : RN w' base q u S := h.same fun k hk => hb.block k (h.blocks k hk).2
theorem RN.kind (h : RN w base q u S) : ∀ k, RF q u k → ∃ c t fz, w.heap[k]? = some (.cells c t fz) ∧ (t = 29 ∨ t = 9) := by
  rintro k (rfl | hk)
  · exact ⟨_, _, _, h.box, .inl rfl⟩
  · obtain ⟨_, _, c, fz, e⟩ := h.own.kind k hk
    exact ⟨c, _, fz, e, .inr rfl⟩
theorem RN.cell0 (h : RN w base q u S) : w.cell? ⟨q, 0, none⟩ = some u ∧ w.frozen? ⟨q, 0, none⟩ = false :=
  ⟨by rw [cell_of_row w q 0 _ _ _ h.box]; rfl, frozen_of_row w q 0 _ _ h.box⟩
theorem RN.apart (h : RN w base q u S) : u.ownBlock ≠ some q := by
  intro e
  obtain ⟨_, _, c, fz, hh⟩ := h.own.kind q e
  have := hh.symm.trans h.box
  injection this with this
  injection this with _ this _
  revert this
  decide
theorem RN.turned (h : RN w base q u S) (o : Sw w1 base u' S') (hb : w1.heap[q]? = w.heap[q]?) (h1 : S'.length ≤ 1024) : RN (w1.setCell ⟨q, 0, none⟩ u') base q u' S' := by
  have hbox := hb.trans h.box
  have hv' : u'.ownBlock ≠ some q := by
    intro e
    obtain ⟨_, _, c, fz, hh⟩ := o.kind q e
    have := hh.symm.trans hbox
    injection this with this
    injection this with _ this _
    revert this
    decide
  refine ⟨?_, o.same (fun k hk => Below.heap_setCell _ _ _ _ (fun e => hv' (by rw [hk]; exact congrArg some e))), h.lo, h1⟩
  rw [heap_setCell_same w1 q 0 _ _ _ hbox]
  rfl
theorem RN.kept_box (h : RN w base q u S) (hg : w.grownBy w1 u.ownBlock) : w1.frozen? ⟨q, 0, none⟩ = false ∧ (∃ x, w1.cell? ⟨q, 0, none⟩ = some x) ∧ w1.heap[q]? = w.heap[q]? := by
  have hb := hg.block q h.lt (fun e => h.apart e.symm)
  have hbx := hb.trans h.box
  exact ⟨frozen_of_row w1 q 0 _ _ hbx, ⟨_, cell_of_row w1 q 0 _ _ _ hbx⟩, hb⟩
theorem RN.new (w : World) (base : Nat) (hb : base ≤ w.heap.size) : RN (w.alloc (.cells #[.slice none 0 0] 29)) base w.heap.size (.slice none 0 0) [] :=
  ⟨heap_alloc_new w _, Sw.nil _ _, hb, by simp⟩
theorem RN.form (h : RN w base q u S) : ∃ A c, u = .slice A S.length c := h.own.form
end
/-- What an act answers, and leaves. -/
def RTold (a : Value) (base q : Nat) (u : Value) (S : List ByteArray) (w : World) (e : Ending) (w' : World) : Prop := ∃ u', e = .returned a ∧ RN w' base q u' S ∧ Turn (RF q u) (RF q u') w w'
set_option maxHeartbeats 600000 in
theorem rSend_any {w : World} {base q : Nat} {u : Value} {S : List ByteArray} (h : RN w base q u S) (hbw : base ≤ w.heap.size) (s : ByteArray) :
    Calls Try.prog 12 #[.pointer (some ⟨q, 0, none⟩), .string s] w (RTold (.int .i64 (seE S)) base q u (seL S s) w) := by
  obtain ⟨A, c, rfl⟩ := h.form
  obtain ⟨c0, f0⟩ := h.cell0
  by_cases hl : 1024 ≤ S.length
  · have hE : seE S = 4 := by unfold seE; rw [if_pos hl]
    have hL : seL S s = S := by unfold seL; rw [if_pos hl]
    rw [hE, hL]
    have HN := Lib.hid h
    have d0 : decide ((1024 : Int) ≤ (S.length : Int)) = true := decide_eq_true (by omega)
    clear h hE hL
    go_enter Try.func12, Try.ntmps12
    go_wp2_with fail
    go_ret
    exact ⟨_, rfl, HN.out, Turn.refl _ _⟩
  · have hE : seE S = 0 := by unfold seE; rw [if_neg hl]
    have hL : seL S s = S ++ [s] := by unfold seL; rw [if_neg hl]
    rw [hE, hL]
    have d0 : decide ((1024 : Int) ≤ (S.length : Int)) = false := decide_eq_false (by omega)
    have hb := (Below.refl w.heap.size w).alloc (Nat.le_refl _) (.cells #[.string s] 9)
    have HB := Lib.hid hb
    have HN := Lib.hid (h.later hb)
    have HO := Lib.hid (Sg.one w s)
    have HS : Hid (S.length < 1024 ∧ base ≤ (w.alloc (.cells #[.string s] 9)).heap.size) := Lib.hid ⟨by omega, Nat.le_trans hbw hb.size⟩
    clear h hE hL hl hb
    generalize hm : S.length = m at *
    go_enter Try.func12, Try.ntmps12
    generalize hw1 : w.alloc (.cells #[.string s] 9) = w1 at *
    go_wp2_with (at_builtin; (try rw [hw1]); refine app_strs rfl _ _ rfl base _ S rfl HN.out.own (some ⟨w.heap.size, 0, none⟩) 1 1 [s] rfl HO.out (by have := HS.out.1; omega) HS.out.2 ?_; intro A' n' c' w2 hn2 ho2 hb2 hg2 hx2; obtain ⟨kf, ⟨ku, kc⟩, kb⟩ := HN.out.kept_box hg2; have HO2 := Lib.hid ho2; have HG2 := Lib.hid hg2; have HX2 := Lib.hid hx2; have HK2 := Lib.hid kb; clear hn2 ho2 hb2 hg2 hx2 kb)
    go_ret
    refine ⟨_, rfl, HN.out.turned HO2.out HK2.out (by have := HS.out.1; simp; omega), ?_⟩
    have t2 : Turn (RF q (Value.slice A m c)) (RF q (Value.slice A m c)) w w2 := (Turn.ofBelow HB.out _).trans (Turn.grown HG2.out (fun k hk => .inr hk))
    refine (t2.put (b := q) (o := 0) (.slice A' n' c') (.inl rfl)).sub ?_
    rintro k (rfl | hk)
    · exact .inl (.inl rfl)
    · rcases HX2.out with e | e
      · exact .inl (.inr (e.symm.trans hk))
      · rw [e] at hk
        injection hk with hk
        have := HB.out.size
        exact .inr (by omega)
/-- A text is told. -/
def RPeekTold (S : List ByteArray) (i : Int) (w : World) (e : Ending) (w' : World) : Prop := e = .returned (.tuple #[.string (gtA S i), .bool (isA S.length i)]) ∧ w = w'
set_option maxHeartbeats 600000 in
theorem rPeek_any {w : World} {base q : Nat} {u : Value} {S : List ByteArray} (h : RN w base q u S) (i : Int) : Calls Try.prog 16 #[.pointer (some ⟨q, 0, none⟩), .int .i64 i] w (RPeekTold S i w) := by
  obtain ⟨A, c, rfl⟩ := h.form
  obtain ⟨c0, f0⟩ := h.cell0
  have hz := Gt.size h.own.sg.2
  have hz1 := hz.1
  have hz2 := hz.2
  by_cases h0 : i < 0
  · have hi : isA S.length i = false := decide_eq_false (fun h => by omega)
    have hg : gtA S i = ByteArray.empty := by unfold gtA; rw [hi]; rfl
    have HN : Hid (RPeekTold S i w (.returned (.tuple #[.string { data := #[] }, .bool false])) w) := Lib.hid (by unfold RPeekTold; rw [hi, hg]; exact ⟨rfl, rfl⟩)
    have d0 : decide (i < 0) = true := decide_eq_true h0
    clear h hi hg hz
    go_enter Try.func16, Try.ntmps16
    go_wp2_with fail
    go_ret2
    exact HN.out
  have d0 : decide (i < 0) = false := decide_eq_false h0
  by_cases h1 : (S.length : Int) ≤ i
  · have hi : isA S.length i = false := decide_eq_false (fun h => by omega)
    have hg : gtA S i = ByteArray.empty := by unfold gtA; rw [hi]; rfl
    have HN : Hid (RPeekTold S i w (.returned (.tuple #[.string { data := #[] }, .bool false])) w) := Lib.hid (by unfold RPeekTold; rw [hi, hg]; exact ⟨rfl, rfl⟩)
    have d1 : decide ((S.length : Int) ≤ i) = true := decide_eq_true h1
    clear h hi hg hz
    go_enter Try.func16, Try.ntmps16
    go_wp2_with fail
    go_ret2
    exact HN.out
  · have d1 : decide ((S.length : Int) ≤ i) = false := decide_eq_false h1
    obtain ⟨j, rfl⟩ := Int.eq_ofNat_of_zero_le (show 0 ≤ i by omega)
    have hj : j < S.length := by omega
    have hjI : (j : Int) < (S.length : Int) := by omega
    have hi : isA S.length (j : Int) = true := decide_eq_true ⟨by omega, by omega⟩
    have hg : gtA S (j : Int) = bat S j := by unfold gtA; rw [hi, if_pos rfl]; rfl
    have HN : Hid (RPeekTold S (j : Int) w (.returned (.tuple #[.string (bat S j), .bool true])) w) := Lib.hid (by unfold RPeekTold; rw [hi, hg]; exact ⟨rfl, rfl⟩)
    obtain ⟨gr, off, rfl, _, hc⟩ := (h.own.sg.2).cell hj
    clear h hi hg hz
    generalize bat S j = s at *
    generalize S.length = m at *
    go_enter Try.func16, Try.ntmps16
    go_wp2_with fail
    go_ret2
    exact HN.out
theorem RF_sub {q : Nat} {u u' : Value} {B k : Nat} (h : ∀ k, u'.ownBlock = some k → B ≤ k) : RF q u' k → RF q u k ∨ B ≤ k := by
  rintro (rfl | hk)
  · exact .inl (.inl rfl)
  · exact .inr (h k hk)
set_option maxHeartbeats 600000 in
theorem rTake_any {w : World} {base q : Nat} {u : Value} {S : List ByteArray} (h : RN w base q u S) (hbw : base ≤ w.heap.size) (i : Int) :
    Calls Try.prog 14 #[.pointer (some ⟨q, 0, none⟩), .int .i64 i] w (RTold (.tuple #[.string (gtA S i), .bool (isA S.length i)]) base q u (ouA i S) w) := by
  have HP := Lib.hid (rPeek_any h i)
  unfold RPeekTold at HP
  cases hi : isA S.length i with
  | false =>
    rw [hi] at HP
    have HN : Hid (∀ a, RTold a base q u (ouA i S) w (.returned a) w) := Lib.hid (fun a => by
      have e : ouA i S = S := by unfold ouA; rw [hi]; rfl
      rw [e]
      exact ⟨u, rfl, h, Turn.refl _ _⟩)
    clear h hi
    go_enter Try.func14, Try.ntmps14
    go_wp2_with fail
    refine HP.out.mono ?_
    rintro e w1 ⟨rfl, rfl⟩
    go_wp2_with fail
    go_ret2
    exact HN.out _
  | true =>
    rw [hi] at HP
    have hi2 : 0 ≤ i ∧ i < (S.length : Int) := of_decide_eq_true hi
    obtain ⟨j, rfl⟩ := Int.eq_ofNat_of_zero_le hi2.1
    have HOU : Hid (ouA (j : Int) S = ou j S) := Lib.hid (by unfold ouA; rw [hi, if_pos rfl]; rfl)
    obtain ⟨A, c, rfl⟩ := h.form
    obtain ⟨c0, f0⟩ := h.cell0
    have hj : j < S.length := by omega
    obtain ⟨gr, off, rfl, _, _⟩ := (h.own.sg.2).cell hj
    have hz := Gt.size h.own.sg.2
    have hz1 := hz.1
    have hz2 := hz.2
    have HN := Lib.hid h
    have HLEN := Lib.hid (And.intro h.few hbw)
    rw [HOU.out]
    have HG0 := Lib.hid h.own.sg.2
    have HG1 := Lib.hid (HG0.out.cut (m := j) (Nat.le_of_lt hj))
    generalize gtA S (j : Int) = gt at *
    have hql := h.lt
    clear h hi hi2 hz hbw
    generalize hm : S.length = m at *
    have hil : (j : Int) ≤ (c : Int) := by omega
    have hil2 : (j : Int) + 1 ≤ (m : Int) := by omega
    have hnc : (m : Int) ≤ (c : Int) := by omega
    have hi0 : (0 : Int) ≤ (j : Int) := by omega
    have hi1 : (0 : Int) ≤ (j : Int) + 1 := by omega
    have hi2 : (j : Int) + 1 ≤ (c : Int) := by omega
    have hiw : IntKind.i64.wrap ((j : Int) + 1) = (j : Int) + 1 := IntWalk.i64_in _ (by omega)
    have hA := (Below.refl w.heap.size w).alloc (Nat.le_refl _) (.cells #[] 9)
    have HA := Lib.hid hA
    have HE := Lib.hid (Sw.empty w w.heap.size (Nat.le_refl _))
    have c0A := (hA.cell (p := ⟨q, 0, none⟩) hql).trans c0
    clear hA
    by_cases hcap : c = j + 1
    · have HG2 : Hid (Sg w.heap.size w (some ⟨gr, off, none⟩) 0 0 (S.drop (j + 1))) := Lib.hid (by
        have := HG0.out.tail (m := j + 1) (by omega) (some ⟨gr, off, none⟩) (by simp) (fun h => by omega)
        rwa [show m - (j + 1) = 0 by omega, show c - (j + 1) = 0 by omega] at this)
      obtain rfl : c = m := by omega
      have hcap' : j + 1 = c := hcap.symm
      clear hcap
      go_enter Try.func14, Try.ntmps14
      go_wp2_with fail
      refine HP.out.mono ?_
      rintro e w1 ⟨rfl, rfl⟩
      go_upto_region 4 with (at_builtin; refine app_strs rfl _ _ rfl w.heap.size _ [] rfl HE.out (some ⟨gr, off, none⟩) j _ (S.take j) rfl (Gt.raise (Gt.below HG1.out HA.out) HA.out.size) (by have := HLEN.out.1; simp; omega) HA.out.size ?_; intro A2 n2 c2 w2 hn2 ho2 hb2 hg2 hx2; have HO2 := Lib.hid ho2; have HB2 := Lib.hid (HA.out.trans hb2); have c02 := (HB2.out.cell (p := ⟨q, 0, none⟩) hql).trans c0; clear hn2 ho2 hb2 hg2 hx2)
      clear HA HE HG0 HG1 c0 f0 c0A
      go_wp2_with (at_builtin; refine app_strs rfl _ _ rfl w.heap.size _ ([] ++ S.take j) rfl HO2.out _ _ _ (S.drop (j + 1)) rfl (Gt.raise (Gt.below HG2.out HB2.out) HB2.out.size) (by have := HLEN.out.1; simp; omega) HB2.out.size ?_; intro A3 n3 c3 w3 hn3 ho3 hb3 hg3 hx3; have HO3 := Lib.hid ho3; have HB3 := Lib.hid (HB2.out.trans hb3); obtain ⟨c03, f03⟩ := (HN.out.later HB3.out).cell0; clear hn3 ho3 hb3 hg3 hx3)
      go_ret2
      have hO : Sw w3 w.heap.size (.slice A3 n3 c3) (ou j S) := HO3.out
      refine ⟨_, rfl, (HN.out.later HB3.out).turned (hO.lower HLEN.out.2) rfl (by have := ou_len (i := j) (L := S) (by omega); have := HLEN.out.1; omega), ?_⟩
      refine ((Turn.ofBelow HB3.out (RF q (Value.slice (some ⟨gr, off, none⟩) _ c))).put (b := q) (o := 0) (.slice A3 n3 c3) (.inl rfl)).sub ?_
      intro k hk
      exact RF_sub (fun k hk => (hO.kind k hk).2.1) hk
    · have HG2 : Hid (Sg w.heap.size w (some ⟨gr, off + (j + 1), none⟩) (m - (j + 1)) (c - (j + 1)) (S.drop (j + 1))) := Lib.hid (HG0.out.tail (by omega) _ (by simp) (fun h => rfl))
      go_enter Try.func14, Try.ntmps14
      go_wp2_with fail
      refine HP.out.mono ?_
      rintro e w1 ⟨rfl, rfl⟩
      go_upto_region 4 with (at_builtin; refine app_strs rfl _ _ rfl w.heap.size _ [] rfl HE.out (some ⟨gr, off, none⟩) j _ (S.take j) rfl (Gt.raise (Gt.below HG1.out HA.out) HA.out.size) (by have := HLEN.out.1; simp; omega) HA.out.size ?_; intro A2 n2 c2 w2 hn2 ho2 hb2 hg2 hx2; have HO2 := Lib.hid ho2; have HB2 := Lib.hid (HA.out.trans hb2); have c02 := (HB2.out.cell (p := ⟨q, 0, none⟩) hql).trans c0; clear hn2 ho2 hb2 hg2 hx2)
      clear HA HE HG0 HG1 c0 f0 c0A
      go_wp2_with (at_builtin; refine app_strs rfl _ _ rfl w.heap.size _ ([] ++ S.take j) rfl HO2.out _ _ _ (S.drop (j + 1)) rfl (Gt.raise (Gt.below HG2.out HB2.out) HB2.out.size) (by have := HLEN.out.1; simp; omega) HB2.out.size ?_; intro A3 n3 c3 w3 hn3 ho3 hb3 hg3 hx3; have HO3 := Lib.hid ho3; have HB3 := Lib.hid (HB2.out.trans hb3); obtain ⟨c03, f03⟩ := (HN.out.later HB3.out).cell0; clear hn3 ho3 hb3 hg3 hx3)
      go_ret2
      have hO : Sw w3 w.heap.size (.slice A3 n3 c3) (ou j S) := HO3.out
      refine ⟨_, rfl, (HN.out.later HB3.out).turned (hO.lower HLEN.out.2) rfl (by have := ou_len (i := j) (L := S) (by omega); have := HLEN.out.1; omega), ?_⟩
      refine ((Turn.ofBelow HB3.out (RF q (Value.slice (some ⟨gr, off, none⟩) _ c))).put (b := q) (o := 0) (.slice A3 n3 c3) (.inl rfl)).sub ?_
      intro k hk
      exact RF_sub (fun k hk => (hO.kind k hk).2.1) hk
end Nw
end Go.Proofs.Ytedhmlggmfgpgaa
