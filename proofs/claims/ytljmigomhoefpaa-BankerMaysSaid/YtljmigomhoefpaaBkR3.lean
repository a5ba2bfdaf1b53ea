/-
  Layer 8, the document's answers: order (that calls itself), Order.
-/
import Derived.Test.YtljmigomhoefpaaBkR2
set_option linter.unusedVariables false
set_option maxRecDepth 100000
namespace Go.Proofs.Ytljmigomhoefpaa.Bk
open Go.RowKit

theorem Try.infoBool8 : (Try.prog.info? 4).map (fun i => (i.zero, i.size, i.bytes)) = some (some (.bool false), 1, 1) := by kernel_rfl
theorem first_some {f : Nat → Option (List Nat)} {x : List Nat} : ∀ {S : List Nat} {a : Nat}, S.Pairwise (· < ·) → a ∈ S → (∀ t ∈ S, t < a → f t = none) → f a = some x → S.findSome? f = some x
  | [], a, _, h, _, _ => by cases h
  | b :: S, a, hp, h, hn, hf => by
    rw [List.findSome?_cons]
    by_cases e : b = a
    · subst e; rw [hf]
    · have ha : a ∈ S := by
        rcases List.mem_cons.1 h with q | q
        · exact absurd q.symm e
        · exact q
      rw [hn b (by simp) ((List.pairwise_cons.1 hp).1 a ha)]
      exact first_some (List.pairwise_cons.1 hp).2 ha (fun t ht => hn t (by simp [ht])) hf
theorem pairwise_lf (L : List Bool) : (lf L).Pairwise (· < ·) := List.pairwise_lt_range.sublist List.filter_sublist
theorem getD_setb {L : List Bool} {i j : Nat} (hi : i < L.length) : (L.set i false).getD j false = if j = i then false else L.getD j false := by
  simp only [List.getD, List.getElem?_set]
  by_cases h : i = j
  · subst h; simp [hi]
  · rw [if_neg h, if_neg (fun e => h e.symm)]
theorem lf_set {L : List Bool} {i : Nat} (hi : i < L.length) : lf (L.set i false) = (lf L).erase i := by
  rw [(nodup_lf L).erase_eq_filter]
  unfold lf
  rw [List.filter_filter, List.length_set]
  apply List.filter_congr
  intro j hj
  rw [getD_setb hi]
  by_cases e : j = i
  · subst e; simp
  · simp [e]
/-- What the document tries of one. -/
def rtry (nd : Nat → List Int) (hd : Nat → Int → Bool) (q : Nat) (S : List Nat) (a : Nat) : Option (List Nat) := if can nd hd S a then (rord nd hd q (S.erase a)).map (a :: ·) else none
theorem rord_succ (nd : Nat → List Int) (hd : Nat → Int → Bool) (q : Nat) (S : List Nat) : rord nd hd (q + 1) S = S.findSome? (rtry nd hd q S) := rfl
/-- The document's order is told. -/
def RordTold (nd : Nat → List Int) (hd : Nat → Int → Bool) (q : Nat) (S : List Nat) (w : World) (e : Ending) (w' : World) : Prop :=
  Below w.heap.size w w' ∧ ((e = .returned (.tuple #[.slice none 0 0, .bool false]) ∧ rord nd hd q S = none) ∨ ∃ A m c o, e = .returned (.tuple #[.slice A m c, .bool true]) ∧ m = o.length ∧ rord nd hd q S = some o ∧ Iw w' w.heap.size (.slice A m c) (nz o))
/-- Truths of one's own. -/
def Bw (w : World) (base : Nat) (v : Value) (L : List Bool) : Prop := w.ownsRow base 4 1 v L.length (bvs L)
theorem Bw.bt {w : World} {base : Nat} {A : Option Addr} {n cap : Nat} {L : List Bool} (h : Bw w base (.slice A n cap) L) : n = L.length ∧ Bt w.heap.size w A n cap L := by
  obtain ⟨rfl, h2⟩ := gt_own h
  exact ⟨rfl, h2⟩
theorem app_bools {w : World} {ops : Array Oper} {rest : List Oper} {o : Oper} {a : Act} {Q : Exit → Act → World → Prop} (hgd : o.guard = none) (s x : Operand) (ho : o.op = .call { callee := .builtin .append, args := #[s, x], argTypes := #[40, 40] })
    (base : Nat) (v : Value) (xs : List Bool) (hs : a.eval s = v) (hown : Bw w base v xs)
    (A : Option Addr) (m c : Nat) (ys : List Bool) (hx : a.eval x = .slice A m c) (hr : Bt w.heap.size w A m c ys) (hb : xs.length + m ≤ 1000000) (hbase : base ≤ w.heap.size)
    (h : ∀ A' n' c' w', n' = (xs ++ ys).length → Bw w' base (.slice A' n' c') (xs ++ ys) → Below base w w' → wpList Try.prog ops Q rest (a.put o.dst (.slice A' n' c')) w') : wpList Try.prog ops Q (o :: rest) a w := by
  obtain ⟨i0, hi, hz0, hz1, hz2⟩ := info_parts Try.infoBool8
  refine appG 40 4 i0 _ 1 1 Try.underlying40 hi hz0 hz1 hz2 rfl (by decide) (by decide) hgd s x ho base v xs.length (bvs xs) hs hown A m c (bvs ys) hx hr (bvs_one ys) hb hbase ?_
  intro A' c' w' h1 h2 h3 h4
  have e : xs.length + m = (xs ++ ys).length := by rw [List.length_append, hr.len]
  refine h A' _ c' w' e (by unfold Bw bvs; rw [List.map_append, ← e]; exact h1) h2
theorem own_one (w : World) (z : Int) (base : Nat) (hb : base ≤ w.heap.size) : Iw (w.alloc (.cells #[.int .i64 z] 3)) base (.slice (some ⟨w.heap.size, 0, none⟩) 1 1) [z] :=
  ⟨by simp [ivs], .inr ⟨w.heap.size, 1, #[.int .i64 z], rfl, hb, heap_alloc_new w _, Nat.le_refl _, by unfold maxLen; omega, by simp, by simp [ivs]⟩⟩
theorem Bw.put {w : World} {base g n c i : Nat} {L : List Bool} (h : Bw w base (.slice (some ⟨g, 0, none⟩) n c) L) (hi : i < L.length) : Bw (w.setCell ⟨g, i, none⟩ (.bool false)) base (.slice (some ⟨g, 0, none⟩) n c) (L.set i false) := by
  have := own_put h (x := i) (by simpa [bvs] using hi) (.bool false)
  unfold Bw
  rw [List.length_set, show bvs (L.set i false) = (bvs L).set i (.bool false) by simp [bvs, List.map_set]]
  exact this
theorem Bw.block {w : World} {base n c : Nat} {A : Option Addr} {L : List Bool} (h : Bw w base (.slice A n c) L) (hL : 0 < L.length) : ∃ g, A = Option.some ⟨g, 0, none⟩ ∧ base ≤ g ∧ g < w.heap.size := by
  have hl := World.ownsRow.lt h
  rcases h.2 with ⟨_, q⟩ | ⟨g, cap, cur, q, hg, _⟩
  · omega
  · injection q with q1 q2 q3
    subst q1
    exact ⟨g, rfl, hg, (hl g rfl).2⟩
theorem Bw.cells {w : World} {base g n c i : Nat} {L : List Bool} (h : Bw w base (.slice (some ⟨g, 0, none⟩) n c) L) (hi : i < L.length) : w.cell? ⟨g, i, none⟩ = Option.some (.bool (L.getD i false)) ∧ w.frozen? ⟨g, i, none⟩ = false := by
  have hm := h.bt.1
  unfold Bw at h
  subst hm
  refine ⟨?_, h.frozenAt _⟩
  rw [h.cellAt _ (by omega), bvs_get hi]
set_option maxHeartbeats 4000000 in
theorem rorder_any (A : Option Addr) (n cap : Nat) (C : Cm) (hn : n ≤ 8) : ∀ (q many : Nat) (A2 : Option Addr) (c2 : Nat) (L : List Bool) (w : World), many = q → Cl w.heap.size w A n cap C → Bt w.heap.size w A2 n c2 L → (lf L).length = q →
    Calls Try.prog 24 #[.slice A n cap, .slice A2 n c2, .int .i64 (many : Int)] w (RordTold (need C) (hb C) q (lf L) w) := by
  intro q
  induction q with
  | zero =>
    intro many A2 c2 L w hm hC hL hq
    subst hm
    clear hC hL
    go_enter Try.func24, Try.ntmps24
    go_wp2_with fail
    go_ret2
    exact ⟨Below.refl _ _, .inr ⟨_, _, _, [], rfl, rfl, rfl, Iw.nil _ _⟩⟩
  | succ q ih =>
    intro many A2 c2 L w hm hC hL hq
    have HIH := Lib.hid ih
    have HC := Lib.hid hC
    have HL := Lib.hid hL
    have HN := Lib.hid hL.len
    have HQ := Lib.hid hq
    have hs1 := hC.size.1
    have hs2 := hC.size.2
    have hs3 := (Gt.size hL).1
    have hs4 := (Gt.size hL).2
    have hq8 : (lf L).length ≤ 8 := by
      have : (lf L).length ≤ L.length := by unfold lf; exact Nat.le_trans (List.length_filter_le _ _) (by simp)
      have := hL.len
      omega
    have hm0 : ((many : Int) == 0) = false := by rw [beq_eq_false_iff_ne]; omega
    have hw : IntKind.i64.wrap ((many : Int) - 1) = (q : Int) := by rw [IntWalk.i64_in _ (by omega)]; omega
    clear ih hC hL hq hq8 hm
    go_enter Try.func24, Try.ntmps24
    go_wp2_with fail
    go_loopw [8] (fun iv wr => ∃ i : Nat, i ≤ n ∧ iv = .int .i64 (i : Int) ∧ Hid ((∀ t ∈ lf L, t < i → rtry (need C) (hb C) q (lf L) t = none) ∧ Below w.heap.size w wr)) (fun iv _ => n - (intOf iv).toNat)
    case atStart => exact ⟨0, Nat.zero_le _, rfl, Lib.hid ⟨fun t _ ht => by omega, Below.refl _ _⟩⟩
    case round =>
      rename World => wr
      obtain ⟨i, hi, rfl, HI⟩ := hrel
      by_cases hlt : i < n
      · have HLr := Lib.hid (Gt.later HL.out HI.out.2)
        have HCr := Lib.hid (HC.out.later HI.out.2)
        obtain ⟨gb, ob, rfl, _, q5⟩ := Bt.cell HLr.out hlt
        cases hbk : L.getD i false with
        | false =>
          rw [hbk] at q5
          have HKN : Hid ((∀ t ∈ lf L, t < i + 1 → rtry (need C) (hb C) q (lf L) t = none) ∧ Below w.heap.size w wr) := Lib.hid ⟨fun t hm ht => by
            rcases Nat.lt_succ_iff_lt_or_eq.1 ht with h | h
            · exact HI.out.1 t hm h
            · have := (mem_lf.1 hm).2
              rw [h, hbk] at this; exact absurd this (by decide), HI.out.2⟩
          clear hbk
          go_wp2_with fail
          go_roundw
          case rel =>
            first
            | exact ⟨i + 1, by omega, by go_num, HKN⟩
            | ((repeat apply Exists.intro); exact ⟨⟨i + 1, by omega, by go_num, HKN⟩, rfl⟩)
          case measure => simp [intOf]; omega
        | true =>
          rw [hbk] at q5
          have HIM : Hid (i ∈ lf L) := Lib.hid (mem_lf.2 ⟨by rw [HN.out]; exact hlt, hbk⟩)
          clear hbk
          go_wp2_with fail
          refine (rcan_any A n cap C i _ c2 L _ HCr.out hlt HLr.out).mono ?_
          rintro e wc ⟨b, rfl, hb, hcc⟩
          have HBC := Lib.hid (HI.out.2.trans (hcc.mono HI.out.2.size))
          have HLc := Lib.hid (Gt.later HLr.out hcc)
          have HCc := Lib.hid (HCr.out.later hcc)
          cases b with
          | false =>
            have HKN : Hid ((∀ t ∈ lf L, t < i + 1 → rtry (need C) (Bk.hb C) q (lf L) t = none) ∧ Below w.heap.size w wc) := Lib.hid ⟨fun t hm ht => by
              rcases Nat.lt_succ_iff_lt_or_eq.1 ht with h | h
              · exact HI.out.1 t hm h
              · rw [h]
                unfold rtry
                rw [if_neg (fun e => by have := hb.2 e; cases this)], HBC.out⟩
            clear hb hcc
            go_wp2_with fail
            go_roundw
            case rel =>
              first
              | exact ⟨i + 1, by omega, by go_num, HKN⟩
              | ((repeat apply Exists.intro); exact ⟨⟨i + 1, by omega, by go_num, HKN⟩, rfl⟩)
            case measure => simp [intOf]; omega
          | true =>
            have HCAN := Lib.hid (hb.1 rfl)
            have hA := (Below.refl wc.heap.size wc).alloc (Nat.le_refl _) (.cells #[] 4)
            have HEMP : Hid (Bw (wc.alloc (.cells #[] 4)) wc.heap.size (.slice (some ⟨wc.heap.size, 0, none⟩) 0 0) []) := Lib.hid (own_empty wc 4 1 wc.heap.size (Nat.le_refl _))
            have HLA := Lib.hid (Gt.later HLc.out hA)
            have HAA := Lib.hid hA
            have HLL : Hid (([] : List Bool).length + n ≤ 1000000) := Lib.hid (by simp; omega)
            clear hb hcc hA q5
            go_wp2_with (at_builtin; refine app_bools rfl _ _ rfl wc.heap.size (.slice (some ⟨wc.heap.size, 0, none⟩) 0 0) [] rfl HEMP.out _ n c2 L rfl HLA.out HLL.out (by simp) ?_; intro A5 n5 c5 w5 hn5 ho5 hb5; have HO5 := Lib.hid ho5; have HB5 := Lib.hid (HAA.out.trans hb5); have HN5 := Lib.hid hn5; obtain ⟨g5, rfl, hg51, hg52⟩ := ho5.block (by rw [List.nil_append, HN.out]; omega); have y0 := (ho5.cells (i := i) (by rw [List.nil_append, HN.out]; exact hlt)).1; have y1 := (ho5.cells (i := i) (by rw [List.nil_append, HN.out]; exact hlt)).2; have hn5' : n5 = n := (by rw [hn5, List.nil_append, HN.out]); subst hn5'; have HG5 := Lib.hid (And.intro hg51 hg52); clear ho5 hb5 hn5 hg51 hg52)
            have HO6 : Hid (Bw w5 wc.heap.size (.slice (some ⟨g5, 0, none⟩) n5 c5) L) := HO5
            have HPUT : Hid (Bw (w5.setCell ⟨g5, i, none⟩ (.bool false)) wc.heap.size (.slice (some ⟨g5, 0, none⟩) n5 c5) (L.set i false) ∧ Below wc.heap.size wc (w5.setCell ⟨g5, i, none⟩ (.bool false))) := Lib.hid ⟨HO6.out.put (by rw [HN.out]; exact hlt), HB5.out.setCell HG5.out.1 _⟩
            have HCp := Lib.hid (HCc.out.later HPUT.out.2)
            have HLF := Lib.hid (lf_set (L := L) (i := i) (by rw [HN.out]; exact hlt))
            have HBP := Lib.hid (HBC.out.trans (HPUT.out.2.mono HBC.out.size))
            have HREC := Lib.hid (HIH.out q _ _ (L.set i false) _ rfl HCp.out HPUT.out.1.bt.2 (by rw [HLF.out, List.length_erase_of_mem HIM.out, HQ.out]; rfl))
            go_wp2_with fail
            clear y0 y1
            generalize w5.setCell ⟨g5, i, none⟩ (.bool false) = wp at *
            refine HREC.out.mono ?_
            rintro e wz ⟨hbz, hh⟩
            have HBZ := Lib.hid (HBP.out.trans (hbz.mono HBP.out.size))
            clear hbz
            rcases hh with ⟨rfl, hno⟩ | ⟨A6, m6, c6, o, rfl, hm6, ho6, hown6⟩
            · have HKN : Hid ((∀ t ∈ lf L, t < i + 1 → rtry (need C) (hb C) q (lf L) t = none) ∧ Below w.heap.size w wz) := Lib.hid ⟨fun t hm ht => by
                rcases Nat.lt_succ_iff_lt_or_eq.1 ht with h | h
                · exact HI.out.1 t hm h
                · rw [h]
                  unfold rtry
                  rw [if_pos HCAN.out, ← HLF.out, hno]; rfl, HBZ.out⟩
              clear hno
              go_wp2_with fail
              go_roundw
              case rel =>
                first
                | exact ⟨i + 1, by omega, by go_num, HKN⟩
                | ((repeat apply Exists.intro); exact ⟨⟨i + 1, by omega, by go_num, HKN⟩, rfl⟩)
              case measure => simp [intOf]; omega
            · have HFIN : Hid (rord (need C) (hb C) (q + 1) (lf L) = some (i :: o)) := Lib.hid (by
                rw [rord_succ]
                refine first_some (pairwise_lf L) HIM.out HI.out.1 ?_
                unfold rtry
                rw [if_pos HCAN.out, ← HLF.out, ho6]; rfl)
              have hA := (Below.refl wz.heap.size wz).alloc (Nat.le_refl _) (.cells #[.int .i64 (i : Int)] 3)
              have HAA2 := Lib.hid hA
              have HI6 := Lib.hid (Gt.later hown6.lt.2 hA)
              have HONE := Lib.hid (own_one wz (i : Int) wz.heap.size (Nat.le_refl _))
              have HLO : Hid ([(i : Int)].length + m6 ≤ 1000000) := Lib.hid (by
                have h1 := (lf L).length_filter_le (fun _ => true)
                have : o.length ≤ 8 := by
                  have h2 : (lf (L.set i false)).length = q := by rw [HLF.out, List.length_erase_of_mem HIM.out, HQ.out]; rfl
                  have h3 := rord_eq (nodup_lf (L.set i false)) h2 (nd := need C) (hd := hb C)
                  rw [h3] at ho6
                  have h4 := (ord_some (nodup_lf (L.set i false)) h2 ho6).2.2.2
                  have h5 : (lf L).length ≤ L.length := by unfold lf; exact Nat.le_trans (List.length_filter_le _ _) (by simp)
                  have h6 := HN.out
                  have h7 := HQ.out
                  omega
                simp; omega)
              clear hm6 ho6 hown6 hA
              go_wp2_with (at_builtin; refine app_ints rfl _ _ rfl wz.heap.size (.slice (some ⟨wz.heap.size, 0, none⟩) 1 1) [(i : Int)] rfl HONE.out A6 m6 c6 (nz o) rfl HI6.out HLO.out (by simp) ?_; intro A7 n7 c7 w7 hn7 ho7 hb7 hg7 hd7; have HO7 := Lib.hid ho7; have HB7 := Lib.hid (HAA2.out.trans hb7); have HN7 := Lib.hid hn7; clear ho7 hb7 hn7 hg7 hd7)
              go_ret2
              exact ⟨HBZ.out.trans (HB7.out.mono HBZ.out.size), .inr ⟨_, _, _, i :: o, rfl, by rw [HN7.out]; simp [nz], HFIN.out, own_lower HO7.out HBZ.out.size⟩⟩
      · obtain rfl : i = n := by omega
        have HNO : Hid (rord (need C) (hb C) (q + 1) (lf L) = none) := Lib.hid (by
          rw [rord_succ, List.findSome?_eq_none_iff]
          intro t ht
          exact HI.out.1 t ht (by rw [← HN.out]; exact (mem_lf.1 ht).1))
        go_wp2_with fail
        go_ret2
        exact ⟨HI.out.2, .inl ⟨rfl, HNO.out⟩⟩
end Go.Proofs.Ytljmigomhoefpaa.Bk
