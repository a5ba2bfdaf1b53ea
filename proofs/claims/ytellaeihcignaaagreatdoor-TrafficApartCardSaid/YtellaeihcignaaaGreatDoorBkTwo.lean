/-
  Layer 8: what the statements call besides: few, meets, SameInts.
  Layer 8: claims but one (without); the document's examples (shown).
  Layer 8: the document's examples (shown).
  Layer 8: one of one's own claims is written.
-/
import Derived.Test.YtellaeihcignaaaGreatDoorBkOne
import Derived.Deep.RegionHeld3
import Derived.Deep.RegionLaw
import Derived.Deep.CutRange
import Derived.Deep.DeepCutAuto
set_option linter.unusedVariables false
set_option maxRecDepth 100000
section
namespace Go.Proofs.YtellaeihcignaaaGreatDoor.Bk
open Go.RowKit

/-- So many of the claims are looked at. -/
structure FewIs (C : Cm) (m : Nat) : Prop where
  le : m ≤ C.length
  ok : ∀ i, i < m → i < 9 ∧ (hold C i).length ≤ 40 ∧ (need C i).length ≤ 40
  end_ : m < C.length → ¬ (m < 9 ∧ (hold C m).length ≤ 40 ∧ (need C m).length ≤ 40)
theorem FewIs.uniq {C : Cm} {m m' : Nat} (h : FewIs C m) (h' : FewIs C m') : m = m' := by
  rcases Nat.lt_trichotomy m m' with q | q | q
  · exact absurd (h'.ok m q) (h.end_ (by have := h'.le; omega))
  · exact q
  · exact absurd (h.ok m' q) (h'.end_ (by have := h.le; omega))
theorem FewIs.nine {C : Cm} {m : Nat} (h : FewIs C m) : m ≤ 9 := by
  rcases Nat.lt_or_ge 9 m with q | q
  · have := (h.ok 9 q).1; omega
  · exact q
/-- The first of them are told. -/
def FewTold (A : Option Addr) (cap : Nat) (C : Cm) (w : World) (e : Ending) (w' : World) : Prop := ∃ m, e = .returned (.slice A m cap) ∧ FewIs C m ∧ w = w'
/-- Two lists that both have a number. -/
def Meets (L M : List Int) : Prop := ∃ z, z ∈ L ∧ z ∈ M
set_option maxHeartbeats 1000000 in
/-- Two lists are the same. -/
theorem same_any (A : Option Addr) (n c B : Nat) (L : List Int) (A2 : Option Addr) (n2 c2 B2 : Nat) (M : List Int) (w : World) (h : Lt B w A n c L) (h2 : Lt B2 w A2 n2 c2 M) (hB : B ≤ w.heap.size) (hB2 : B2 ≤ w.heap.size) : Calls Tryz.prog 49 #[.slice A n c, .slice A2 n2 c2] w (Told8 (L = M) w) := by
  have HL := Lib.hid (Gt.raise h hB)
  have HM := Lib.hid (Gt.raise h2 hB2)
  have HLN := Lib.hid h.len
  have HMN := Lib.hid h2.len
  have s1 := (Gt.size h).1
  have s2 := (Gt.size h).2
  have s3 := (Gt.size h2).1
  have s4 := (Gt.size h2).2
  clear h h2
  by_cases hnm : n = n2
  · subst hnm
    go_enter Tryz.func49, Tryz.ntmps49
    go_wp2_with fail
    go_loopw [5] (fun iv wr => ∃ k : Nat, k ≤ n ∧ iv = .int .i64 (k : Int) ∧ Hid (Below w.heap.size w wr) ∧ Hid (∀ j, j < k → L.getD j 0 = M.getD j 0)) (fun iv _ => n - (intOf iv).toNat)
    case atStart => exact ⟨0, Nat.zero_le _, rfl, Lib.hid (Below.refl _ _), Lib.hid (fun j hj => by omega)⟩
    case round =>
      rename World => wr
      obtain ⟨k, hk, rfl, HB, HJ⟩ := hrel
      by_cases hlt : k < n
      · obtain ⟨g1, o1, rfl, _, q1⟩ := Lt.cell (Gt.below HL.out HB.out) hlt
        obtain ⟨g2, o2, rfl, _, q2⟩ := Lt.cell (Gt.below HM.out HB.out) hlt
        obtain ⟨x, hxq⟩ : ∃ x, x = L.getD k 0 := ⟨_, rfl⟩
        obtain ⟨y, hyq⟩ : ∃ y, y = M.getD k 0 := ⟨_, rfl⟩
        rw [← hxq] at q1
        rw [← hyq] at q2
        have HXQ := Lib.hid hxq
        have HYQ := Lib.hid hyq
        clear hxq hyq
        by_cases he : x = y
        · have hb : (x != y) = false := by rw [bne_eq_false_iff_eq]; exact he
          have HE := Lib.hid he
          clear he
          go_wp2_with fail
          go_big_quiet (fail)
          go_wp2_with fail
          go_roundw
          case rel => exact ⟨k + 1, by omega, by go_num, Lib.hid (HB.out.trans (below_drewN _ _ _)), Lib.hid (fun j hj => by
            rcases Nat.lt_succ_iff_lt_or_eq.1 hj with h | h
            · exact HJ.out j h
            · subst h; rw [← HXQ.out, ← HYQ.out]; exact HE.out)⟩
          case measure => simp [intOf]; omega
        · have hb : (x != y) = true := by rw [bne_iff_ne]; exact he
          have HE := Lib.hid he
          clear he
          go_wp2_with fail
          go_big_quiet (fail)
          go_wp2_with fail
          go_ret
          exact ⟨false, rfl, iff_of_false (by decide) (fun e => HE.out (by rw [HXQ.out, HYQ.out, e])), HB.out.trans (below_drewN _ _ _)⟩
      · obtain rfl : k = n := by omega
        go_wp2_with fail
        go_ret
        exact ⟨true, rfl, iff_of_true rfl (by
          apply List.ext_getElem (by rw [HLN.out, HMN.out])
          intro i h1 h2
          have := HJ.out i (by rw [← HLN.out]; exact h1)
          rw [List.getD, List.getD, List.getElem?_eq_getElem h1, List.getElem?_eq_getElem h2] at this
          exact this), HB.out⟩
  · have hb : ((n : Int) != (n2 : Int)) = true := by rw [bne_iff_ne]; omega
    have HE := Lib.hid hnm
    clear hnm
    go_enter Tryz.func49, Tryz.ntmps49
    go_wp2_with fail
    go_ret
    exact ⟨false, rfl, iff_of_false (by decide) (fun e => HE.out (by rw [← HLN.out, ← HMN.out, e])), Below.refl _ _⟩
end Go.Proofs.YtellaeihcignaaaGreatDoor.Bk
end

section
namespace Go.Proofs.YtellaeihcignaaaGreatDoor.Bk
open Go.RowKit

/-- Claims of one's own. -/
def Cw (w : World) (base : Nat) (v : Value) (P : List (Value × Value)) : Prop := w.ownsRow base 64 2 v P.length (pcl P)
theorem Cw.gt {w : World} {base : Nat} {A : Option Addr} {n cap : Nat} {P : List (Value × Value)} (h : Cw w base (.slice A n cap) P) : n = P.length ∧ Gt 2 w.heap.size w A n cap (pcl P) := by
  obtain ⟨rfl, h2⟩ := gt_own h
  exact ⟨rfl, h2⟩
theorem Cw.later {w w' : World} {base : Nat} {v : Value} {P : List (Value × Value)} (h : Cw w base v P) (hb : Below w.heap.size w w') : Cw w' base v P := Bk.own_later h hb
theorem Cw.empty (w : World) (base : Nat) (hb : base ≤ w.heap.size) : Cw (w.alloc (.cells #[] 64)) base (.slice (some ⟨w.heap.size, 0, none⟩) 0 0) [] := own_empty w 64 2 base hb
theorem run_app_claims {w : World} (ty : TypeId) (base : Nat) (v : Value) (P : List (Value × Value)) (hown : Cw w base v P) (A : Option Addr) (m c : Nat) (Q : List (Value × Value)) (hr : Gt 2 w.heap.size w A m c (pcl Q)) (h1 : ∀ u ∈ pcl Q, u.oneCell' = true) (hb : P.length + m ≤ 1000000) (hbase : base ≤ w.heap.size) :
    ∃ A' n' c' w', (Builtin.append_ #[44, 44] ty #[v, .slice A m c]).run Tryz.prog w = .ok (.slice A' n' c') w' ∧ n' = (P ++ Q).length ∧ Cw w' base (.slice A' n' c') (P ++ Q) ∧ Below base w w' ∧ w.grownBy w' v.ownBlock ∧ ((Value.slice A' n' c').ownBlock = v.ownBlock ∨ (Value.slice A' n' c').ownBlock = some w.heap.size) := by
  obtain ⟨i0, hi, hz0, hz1, hz2⟩ := info_parts Tryz.infoClaim
  obtain ⟨v', w', hrun, h2, h3, h4⟩ := run_appG 44 64 i0 _ 2 48 Tryz.underlying44 hi hz0 hz1 hz2 rfl (by decide) (by decide) ty base v P.length (pcl P) hown A m c (pcl Q) hr h1 hb hbase
  obtain ⟨A', c', rfl⟩ := own_form h2
  have e : P.length + m = (P ++ Q).length := by
    have := hr.len
    rw [pcl_length] at this
    rw [List.length_append]; omega
  refine ⟨A', _, c', w', hrun, e, by unfold Cw; rw [pcl_app, ← e]; exact h2, Below.grown (Below.refl _ _) h3 hbase (fun k hk => (World.ownsRow.lt hown k hk).1), h3, h4⟩
/-- At a step of a region that draws its order. -/
theorem step_app_claims {w : World} {ops : Array Oper} {o : Oper} {a : Act} {K : Act → World → Prop} {Q : Exit → Act → World → Prop} {F : Prop} (hgd : o.guard = none) (s x : Operand)
    (ho : o.op = .call { callee := .builtin .append, args := #[s, x], argTypes := #[44, 44] })
    (base : Nat) (v : Value) (P : List (Value × Value)) (hs : a.eval s = v) (hown : Cw w base v P)
    (A : Option Addr) (m c : Nat) (R : List (Value × Value)) (hx : a.eval x = .slice A m c) (hr : Gt 2 w.heap.size w A m c (pcl R)) (h1 : ∀ u ∈ pcl R, u.oneCell' = true) (hb : P.length + m ≤ 1000000) (hbase : base ≤ w.heap.size)
    (h : ∀ A' n' c' w', n' = (P ++ R).length → Cw w' base (.slice A' n' c') (P ++ R) → Below base w w' → K (a.put o.dst (.slice A' n' c')) w') : if Region.wanted o (yielded ops a.tmps) = true then Oper.wp Tryz.prog o a w K Q else F := by
  have hw : Region.wanted o (yielded ops a.tmps) = true := by simp [Region.wanted, hgd]
  rw [if_pos hw]
  obtain ⟨A', n', c', w', hrun, h2, h3, h4, _⟩ := run_app_claims o.type base v P hown A m c R hr h1 hb hbase
  unfold Oper.wp execOp
  simp only [ho, resolve, invoke, builtin, Sem.run_bind, Sem.run_pure, Result.andThen_ok, List.map_toArray, List.map_cons, List.map_nil, hs, hx, hrun]
  exact h A' n' c' w' h2 h3 h4
theorem app_claims {w : World} {ops : Array Oper} {rest : List Oper} {o : Oper} {a : Act} {Q : Exit → Act → World → Prop} (hgd : o.guard = none) (s x : Operand)
    (ho : o.op = .call { callee := .builtin .append, args := #[s, x], argTypes := #[44, 44] })
    (base : Nat) (v : Value) (P : List (Value × Value)) (hs : a.eval s = v) (hown : Cw w base v P)
    (A : Option Addr) (m c : Nat) (R : List (Value × Value)) (hx : a.eval x = .slice A m c) (hr : Gt 2 w.heap.size w A m c (pcl R)) (h1 : ∀ u ∈ pcl R, u.oneCell' = true) (hb : P.length + m ≤ 1000000) (hbase : base ≤ w.heap.size)
    (h : ∀ A' n' c' w', n' = (P ++ R).length → Cw w' base (.slice A' n' c') (P ++ R) → Below base w w' → w.grownBy w' v.ownBlock → ((Value.slice A' n' c').ownBlock = v.ownBlock ∨ (Value.slice A' n' c').ownBlock = some w.heap.size) → wpList Tryz.prog ops Q rest (a.put o.dst (.slice A' n' c')) w') : wpList Tryz.prog ops Q (o :: rest) a w := by
  obtain ⟨A', n', c', w', hrun, h2, h3, h4, h5, h6⟩ := run_app_claims o.type base v P hown A m c R hr h1 hb hbase
  refine wpList_plain hgd fun K hK => ?_
  unfold Oper.wp execOp
  simp only [ho, resolve, invoke, builtin, Sem.run_bind, Sem.run_pure, Result.andThen_ok, List.map_toArray, List.map_cons, List.map_nil, hs, hx, hrun]
  exact hK _ _ (h A' n' c' w' h2 h3 h4 h5 h6)
/-- Claims are told, at a slice of the call's own. -/
def ClsTold (D : Cm) (w : World) (e : Ending) (w' : World) : Prop := ∃ A m c, e = .returned (.slice A m c) ∧ Cl w'.heap.size w' A m c D ∧ Below w.heap.size w w'
theorem cl_of {w0 w' : World} {base : Nat} {A : Option Addr} {n c : Nat} {P : List (Value × Value)} {D : Cm} (h : Cw w' base (.slice A n c) P) (hr : Rd w'.heap.size w' P D) : Cl w'.heap.size w' A n c D := ⟨P, h.gt.2, hr⟩
end Go.Proofs.YtellaeihcignaaaGreatDoor.Bk
end

section
namespace Go.Proofs.YtellaeihcignaaaGreatDoor.Bk
open Go.RowKit

/-- Two claims, each of one zone held and one needed. -/
def pair8 (x1 x2 x3 x4 : Int) : Cm := [([x1], [x2]), ([x3], [x4])]
def one8 (b : Nat) : Value := .slice (some ⟨b, 0, none⟩) 1 1
def lay8 (w : World) (n : Nat) (x1 x2 x3 x4 : Int) : World := ((((w.alloc (.cells #[.int .i64 x1] 3)).alloc (.cells #[.int .i64 x2] 3)).alloc (.cells #[.int .i64 x3] 3)).alloc (.cells #[.int .i64 x4] 3)).alloc
  (.cells #[one8 n, one8 (n + 1), one8 (n + 1 + 1), one8 (n + 1 + 1 + 1)] 64)
theorem chain_one {wx : World} {b B : Nat} {z : Int} (h : wx.heap[b]? = some (.cells #[.int .i64 z] 3 (0, 0))) (hb : b < B) : Sl B wx (one8 b) [z] := by
  refine ⟨_, _, _, rfl, rfl, Nat.le_refl _, by unfold maxLen; omega, fun h => (by cases h), fun _ => ⟨b, 0, rfl, hb, fun j hj => ?_⟩⟩
  obtain rfl : j = 0 := by omega
  rw [cell_of_row wx b _ _ _ _ h]
  rfl
theorem heap_alloc_at (w : World) (o : Obj) (b : Nat) : (w.alloc o).heap[b]? = if b = w.heap.size then some o else w.heap[b]? := by
  by_cases h : b = w.heap.size
  · rw [if_pos h, h]; exact heap_alloc_new w o
  · rw [if_neg h]
    rcases Nat.lt_or_ge b w.heap.size with q | q
    · exact Below.heap_alloc _ _ _ q
    · rw [Array.getElem?_eq_none (by simp; omega), Array.getElem?_eq_none (by omega)]
theorem size_alloc (w : World) (o : Obj) : (w.alloc o).heap.size = w.heap.size + 1 := by simp
theorem lay_cl (w : World) (n : Nat) (hn : n = w.heap.size) (x1 x2 x3 x4 : Int) : Cl (lay8 w n x1 x2 x3 x4).heap.size (lay8 w n x1 x2 x3 x4) (some ⟨n + 1 + 1 + 1 + 1, 0, none⟩) 2 2 (pair8 x1 x2 x3 x4) ∧ Below w.heap.size w (lay8 w n x1 x2 x3 x4) ∧ (lay8 w n x1 x2 x3 x4).heap.size = w.heap.size + 5 := by
  subst hn
  have hz : (lay8 w w.heap.size x1 x2 x3 x4).heap.size = w.heap.size + 5 := by unfold lay8; simp
  have g0 : (lay8 w w.heap.size x1 x2 x3 x4).heap[w.heap.size]? = some (.cells #[.int .i64 x1] 3 (0, 0)) := by
    unfold lay8; simp only [heap_alloc_at, size_alloc]
    rw [if_neg (by omega), if_neg (by omega), if_neg (by omega), if_neg (by omega), if_pos trivial]
  have g1 : (lay8 w w.heap.size x1 x2 x3 x4).heap[w.heap.size + 1]? = some (.cells #[.int .i64 x2] 3 (0, 0)) := by
    unfold lay8; simp only [heap_alloc_at, size_alloc]
    rw [if_neg (by omega), if_neg (by omega), if_neg (by omega), if_pos trivial]
  have g2 : (lay8 w w.heap.size x1 x2 x3 x4).heap[w.heap.size + 1 + 1]? = some (.cells #[.int .i64 x3] 3 (0, 0)) := by
    unfold lay8; simp only [heap_alloc_at, size_alloc]
    rw [if_neg (by omega), if_neg (by omega), if_pos trivial]
  have g3 : (lay8 w w.heap.size x1 x2 x3 x4).heap[w.heap.size + 1 + 1 + 1]? = some (.cells #[.int .i64 x4] 3 (0, 0)) := by
    unfold lay8; simp only [heap_alloc_at, size_alloc]
    rw [if_neg (by omega), if_pos trivial]
  have g4 : (lay8 w w.heap.size x1 x2 x3 x4).heap[w.heap.size + 1 + 1 + 1 + 1]? = some (.cells #[one8 w.heap.size, one8 (w.heap.size + 1), one8 (w.heap.size + 1 + 1), one8 (w.heap.size + 1 + 1 + 1)] 64 (0, 0)) := by
    unfold lay8; simp only [heap_alloc_at, size_alloc]
    rw [if_pos trivial]
  refine ⟨⟨[(one8 w.heap.size, one8 (w.heap.size + 1)), (one8 (w.heap.size + 1 + 1), one8 (w.heap.size + 1 + 1 + 1))], ⟨rfl, Nat.le_refl _, by unfold maxLen; omega, fun h => (by cases h), fun _ => ⟨w.heap.size + 1 + 1 + 1 + 1, 0, rfl, by omega, fun j hj => ?_⟩⟩, rfl, fun j p e => ?_⟩, ?_, hz⟩
  · rw [cell_of_row _ _ _ _ _ _ g4, Nat.zero_add]
    simp [pcl]
  · rcases (by have := (List.getElem?_eq_some_iff.1 e).1; simp at this; omega : j = 0 ∨ j = 1) with rfl | rfl
    · simp at e
      subst e
      exact ⟨chain_one g0 (by omega), chain_one g1 (by omega)⟩
    · simp at e
      subst e
      exact ⟨chain_one g2 (by omega), chain_one g3 (by omega)⟩
  · unfold lay8
    exact (((((Below.refl _ _).alloc (Nat.le_refl _) _).alloc (by simp <;> omega) _).alloc (by simp <;> omega) _).alloc (by simp <;> omega) _).alloc (by simp <;> omega) _
theorem ord_a : ord (need (pair8 1 2 2 1)) (hb (pair8 1 2 2 1)) 2 (List.range 2) = none := by decide
theorem ord_b : ord (need (pair8 1 2 2 3)) (hb (pair8 1 2 2 3)) 2 (List.range 2) = some [1, 0] := by decide
theorem rg_pair {x1 x2 x3 x4 : Int} (h1 : Zn x1) (h2 : Zn x2) (h3 : Zn x3) (h4 : Zn x4) (h : x1 ≠ x3) : Rg (pair8 x1 x2 x3 x4) := by
  refine ⟨by simp [pair8], fun i hi => ?_, fun i j hi hj hne => ?_⟩
  · rcases (by simp [pair8] at hi; omega : i = 0 ∨ i = 1) with rfl | rfl <;> simp [hold, need, pair8, h1, h2, h3, h4]
  · rcases (by simp [pair8] at hi hj; omega : (i = 0 ∧ j = 1) ∨ (i = 1 ∧ j = 0)) with ⟨rfl, rfl⟩ | ⟨rfl, rfl⟩
    · simp [hold, pair8, h]
    · have h' : ¬ x3 = x1 := fun e => h e.symm
      simp [hold, pair8, h']
theorem rg_a : Rg (pair8 1 2 2 1) := rg_pair ⟨by decide, by decide⟩ ⟨by decide, by decide⟩ ⟨by decide, by decide⟩ ⟨by decide, by decide⟩ (by decide)
theorem rg_b : Rg (pair8 1 2 2 3) := rg_pair ⟨by decide, by decide⟩ ⟨by decide, by decide⟩ ⟨by decide, by decide⟩ ⟨by decide, by decide⟩ (by decide)
theorem saf_a : ¬ SafC (pair8 1 2 2 1) := ord_none List.nodup_range List.length_range ord_a
theorem saf_b : SafC (pair8 1 2 2 3) := ord_saf List.nodup_range List.length_range ord_b
theorem is_b {o : List Nat} {is : Bool} (h : OrdIs (pair8 1 2 2 3) o is) : o = [1, 0] ∧ is = true := h.uniq (.inr ⟨rg_b, .inr ⟨ord_b, rfl⟩⟩)
end Go.Proofs.YtellaeihcignaaaGreatDoor.Bk
end

section
namespace Go.Proofs.YtellaeihcignaaaGreatDoor.Bk
open Go.RowKit

theorem own_put {w : World} {base k g n m c x : Nat} {e : TypeId} {xs : List Value} (h : w.ownsRow base e k (.slice (some ⟨g, 0, none⟩) m c) n xs) (hx : x < xs.length) (v : Value) : (w.setCell ⟨g, x, none⟩ v).ownsRow base e k (.slice (some ⟨g, 0, none⟩) m c) n (xs.set x v) := by
  refine ⟨by rw [List.length_set]; exact h.1, ?_⟩
  rcases h.2 with ⟨q, _⟩ | ⟨g', cap, cur, q, hg, hh, h1, h2, h3, h4⟩
  · cases q
  · injection q with q1 q2 q3
    injection q1 with q1
    injection q1 with q1
    subst q1 q3
    refine .inr ⟨g, c, cur.setIfInBounds x v, by rw [q2], hg, heap_setCell_same w g x cur e v hh, h1, h2, by simpa using h3, ?_⟩
    rw [Array.toList_setIfInBounds, List.take_set, h4]
theorem pcl_set0 : ∀ (P : List (Value × Value)) (i : Nat) (p : Value × Value) (v : Value), P[i]? = some p → (pcl P).set (i * 2) v = pcl (P.set i (v, p.2))
  | [], i, p, v, h => by simp at h
  | x :: l, 0, p, v, h => by simp at h; subst h; simp [pcl]
  | x :: l, i + 1, p, v, h => by
    have ih := pcl_set0 l i p v (by simpa using h)
    rw [show (i + 1) * 2 = i * 2 + 1 + 1 by omega]
    simp [pcl, ih]
theorem pcl_set1 : ∀ (P : List (Value × Value)) (i : Nat) (p : Value × Value) (v : Value), P[i]? = some p → (pcl P).set (i * 2 + 1) v = pcl (P.set i (p.1, v))
  | [], i, p, v, h => by simp at h
  | x :: l, 0, p, v, h => by simp at h; subst h; simp [pcl]
  | x :: l, i + 1, p, v, h => by
    have ih := pcl_set1 l i p v (by simpa using h)
    rw [show (i + 1) * 2 + 1 = i * 2 + 1 + 1 + 1 by omega]
    simp [pcl, ih]
section
variable {w : World} {base g m c i : Nat} {P : List (Value × Value)} {p : Value × Value}
theorem Cw.put0 (h : Cw w base (.slice (some ⟨g, 0, none⟩) m c) P) (hp : P[i]? = some p) (v : Value) : Cw (w.setCell ⟨g, i * 2, none⟩ v) base (.slice (some ⟨g, 0, none⟩) m c) (P.set i (v, p.2)) := by
  have hi := (List.getElem?_eq_some_iff.1 hp).1
  have := own_put h (x := i * 2) (by rw [pcl_length]; omega) v
  rw [pcl_set0 P i p v hp] at this
  unfold Cw
  rw [List.length_set]
  exact this
theorem Cw.put1 (h : Cw w base (.slice (some ⟨g, 0, none⟩) m c) P) (hp : P[i]? = some p) (v : Value) : Cw (w.setCell ⟨g, i * 2 + 1, none⟩ v) base (.slice (some ⟨g, 0, none⟩) m c) (P.set i (p.1, v)) := by
  have hi := (List.getElem?_eq_some_iff.1 hp).1
  have := own_put h (x := i * 2 + 1) (by rw [pcl_length]; omega) v
  rw [pcl_set1 P i p v hp] at this
  unfold Cw
  rw [List.length_set]
  exact this
theorem Cw.cells (h : Cw w base (.slice (some ⟨g, 0, none⟩) m c) P) (hp : P[i]? = some p) : w.cell? ⟨g, i * 2, none⟩ = some p.1 ∧ w.cell? ⟨g, i * 2 + 1, none⟩ = some p.2 ∧ w.frozen? ⟨g, i * 2, none⟩ = false ∧ w.frozen? ⟨g, i * 2 + 1, none⟩ = false := by
  have hi := (List.getElem?_eq_some_iff.1 hp).1
  obtain ⟨q1, q2⟩ := pcl_get P i p hp
  have hm := h.gt.1
  unfold Cw at h
  subst hm
  refine ⟨?_, ?_, h.frozenAt _, h.frozenAt _⟩
  · rw [h.cellAt _ (by omega), q1]
  · rw [h.cellAt _ (by omega), q2]
end
theorem Cw.some {w : World} {base n c : Nat} {A : Option Addr} {P : List (Value × Value)} (h : Cw w base (.slice A n c) P) (hP : 0 < P.length) : ∃ g, A = Option.some ⟨g, 0, none⟩ ∧ base ≤ g ∧ g < w.heap.size := by
  have hl := World.ownsRow.lt h
  rcases h.2 with ⟨_, q⟩ | ⟨g, cap, cur, q, hg, _⟩
  · omega
  · injection q with q1 q2 q3
    subst q1
    exact ⟨g, rfl, hg, (hl g rfl).2⟩
/-- One's own claims, of which one is another one. -/
structure Yst (w0 : World) (g m c i : Nat) (P : List (Value × Value)) (D : Cm) (wy : World) : Prop where
  below : Below w0.heap.size w0 wy
  ex : ∃ q e, Cw wy w0.heap.size (.slice (some ⟨g, 0, none⟩) m c) (P.set i q) ∧ Rd w0.heap.size wy (P.set i q) (D.set i e)
theorem set_self {α : Type} {L : List α} {i : Nat} {x : α} (h : L[i]? = some x) : L.set i x = L := by
  obtain ⟨h1, h2⟩ := List.getElem?_eq_some_iff.1 h
  apply List.ext_getElem (by simp)
  intro j h3 h4
  rw [List.getElem_set]
  split
  · rename_i e; subst e; exact h2.symm
  · rfl
theorem Yst.start {w0 wy : World} {g m c i : Nat} {P : List (Value × Value)} {D : Cm} (hb : Below w0.heap.size w0 wy) (h : Cw wy w0.heap.size (.slice (some ⟨g, 0, none⟩) m c) P) (hr : Rd w0.heap.size wy P D) (hi : i < D.length) : Yst w0 g m c i P D wy := by
  have h1 : P[i]? = some (P[i]'(by rw [hr.1]; exact hi)) := List.getElem?_eq_getElem _
  have h2 : D[i]? = some (D[i]'hi) := List.getElem?_eq_getElem _
  exact ⟨hb, _, _, by rw [set_self h1]; exact h, by rw [set_self h1, set_self h2]; exact hr⟩
theorem Yst.later {w0 wy wz : World} {g m c i : Nat} {P : List (Value × Value)} {D : Cm} (h : Yst w0 g m c i P D wy) (hb : Below wy.heap.size wy wz) : Yst w0 g m c i P D wz := by
  obtain ⟨h1, q, e, h2, h3⟩ := h
  exact ⟨h1.trans (hb.mono h1.size), q, e, h2.later hb, h3.below (hb.mono h1.size)⟩
/-- Where nothing below is touched, what a pair of slices reads as stays. -/
theorem Rd.put {w : World} {base g x : Nat} {v : Value} {P : List (Value × Value)} {D : Cm} (h : Rd base w P D) (hg : base ≤ g) : Rd base (w.setCell ⟨g, x, none⟩ v) P D := h.below ((Below.refl base w).setCell hg v)
end Go.Proofs.YtellaeihcignaaaGreatDoor.Bk
end
