/-
  Layer 8: what the statements call besides: few, meets, SameInts.
  Layer 8: claims but one (without); the document's examples (shown).
  Layer 8: the document's examples (shown).
  Layer 8: one of one's own claims is written.
-/
import Derived.Test.YtakgkocdkondhaaGreatDoorBkOne
import Derived.Deep.RegionHeld3
import Derived.Deep.RegionLaw
import Derived.Deep.CutRange
import Derived.Deep.DeepCutAuto
set_option linter.unusedVariables false
set_option maxRecDepth 100000
section
namespace Go.Proofs.YtakgkocdkondhaaGreatDoor.Bk
open Go.RowKit

/-- So many of the claims are looked at. -/
structure FewIs (C : Cm) (m : Nat) : Prop where
  le : m ≤ C.length
  ok : ∀ i, i < m → i < 9 ∧ (hold C i).length ≤ 40 ∧ (need C i).length ≤ 40
  end_ : m < C.length → ¬ (m < 9 ∧ (hold C m).length ≤ 40 ∧ (need C m).length ≤ 40)
/-- The first of them are told. -/
def FewTold (A : Option Addr) (cap : Nat) (C : Cm) (w : World) (e : Ending) (w' : World) : Prop := ∃ m, e = .returned (.slice A m cap) ∧ FewIs C m ∧ w = w'
/-- Two lists that both have a number. -/
def Meets (L M : List Int) : Prop := ∃ z, z ∈ L ∧ z ∈ M
set_option maxHeartbeats 1000000 in
/-- Two lists are the same. -/
theorem same_any (A : Option Addr) (n c B : Nat) (L : List Int) (A2 : Option Addr) (n2 c2 B2 : Nat) (M : List Int) (w : World) (h : Lt B w A n c L) (h2 : Lt B2 w A2 n2 c2 M) (hB : B ≤ w.heap.size) (hB2 : B2 ≤ w.heap.size) : Calls Tryz.prog 49 #[.slice A n c, .slice A2 n2 c2] w (Told8 (L = M) w) := by
  have HL := Lib.hid (Gt.raise h hB)
  have HM := Lib.hid (Gt.raise h2 hB2)
  have HLN := Lib.hid h.len
  have HMN := Lib.hid h2.len
  have s1 := (Gt.size h).1
  have s2 := (Gt.size h).2
  have s3 := (Gt.size h2).1
  have s4 := (Gt.size h2).2
  clear h h2
  by_cases hnm : n = n2
  · subst hnm
    go_enter Tryz.func49, Tryz.ntmps49
    go_wp2_with fail
    go_loopw [5] (fun iv wr => ∃ k : Nat, k ≤ n ∧ iv = .int .i64 (k : Int) ∧ Hid (Below w.heap.size w wr) ∧ Hid (∀ j, j < k → L.getD j 0 = M.getD j 0)) (fun iv _ => n - (intOf iv).toNat)
    case atStart => exact ⟨0, Nat.zero_le _, rfl, Lib.hid (Below.refl _ _), Lib.hid (fun j hj => by omega)⟩
    case round =>
      rename World => wr
      obtain ⟨k, hk, rfl, HB, HJ⟩ := hrel
      by_cases hlt : k < n
      · obtain ⟨g1, o1, rfl, _, q1⟩ := Lt.cell (Gt.below HL.out HB.out) hlt
        obtain ⟨g2, o2, rfl, _, q2⟩ := Lt.cell (Gt.below HM.out HB.out) hlt
        obtain ⟨x, hxq⟩ : ∃ x, x = L.getD k 0 := ⟨_, rfl⟩
        obtain ⟨y, hyq⟩ : ∃ y, y = M.getD k 0 := ⟨_, rfl⟩
        rw [← hxq] at q1
        rw [← hyq] at q2
        have HXQ := Lib.hid hxq
        have HYQ := Lib.hid hyq
        clear hxq hyq
        by_cases he : x = y
        · have hb : (x != y) = false := by rw [bne_eq_false_iff_eq]; exact he
          have HE := Lib.hid he
          clear he
          go_wp2_with fail
          go_big_quiet (fail)
          go_wp2_with fail
          go_roundw
          case rel => exact ⟨k + 1, by omega, by go_num, Lib.hid (HB.out.trans (below_drewN _ _ _)), Lib.hid (fun j hj => by
            rcases Nat.lt_succ_iff_lt_or_eq.1 hj with h | h
            · exact HJ.out j h
            · subst h; rw [← HXQ.out, ← HYQ.out]; exact HE.out)⟩
          case measure => simp [intOf]; omega
        · have hb : (x != y) = true := by rw [bne_iff_ne]; exact he
          have HE := Lib.hid he
          clear he
          go_wp2_with fail
          go_big_quiet (fail)
          go_wp2_with fail
          go_ret
          exact ⟨false, rfl, iff_of_false (by decide) (fun e => HE.out (by rw [HXQ.out, HYQ.out, e])), HB.out.trans (below_drewN _ _ _)⟩
      · obtain rfl : k = n := by omega
        go_wp2_with fail
        go_ret
        exact ⟨true, rfl, iff_of_true rfl (by
          apply List.ext_getElem (by rw [HLN.out, HMN.out])
          intro i h1 h2
          have := HJ.out i (by rw [← HLN.out]; exact h1)
          rw [List.getD, List.getD, List.getElem?_eq_getElem h1, List.getElem?_eq_getElem h2] at this
          exact this), HB.out⟩
  · have hb : ((n : Int) != (n2 : Int)) = true := by rw [bne_iff_ne]; omega
    have HE := Lib.hid hnm
    clear hnm
    go_enter Tryz.func49, Tryz.ntmps49
    go_wp2_with fail
    go_ret
    exact ⟨false, rfl, iff_of_false (by decide) (fun e => HE.out (by rw [← HLN.out, ← HMN.out, e])), Below.refl _ _⟩
end Go.Proofs.YtakgkocdkondhaaGreatDoor.Bk
end

section
namespace Go.Proofs.YtakgkocdkondhaaGreatDoor.Bk
open Go.RowKit

/-- Claims of one's own. -/
def Cw (w : World) (base : Nat) (v : Value) (P : List (Value × Value)) : Prop := w.ownsRow base 64 2 v P.length (pcl P)
theorem Cw.gt {w : World} {base : Nat} {A : Option Addr} {n cap : Nat} {P : List (Value × Value)} (h : Cw w base (.slice A n cap) P) : n = P.length ∧ Gt 2 w.heap.size w A n cap (pcl P) := by
  obtain ⟨rfl, h2⟩ := gt_own h
  exact ⟨rfl, h2⟩
theorem Cw.later {w w' : World} {base : Nat} {v : Value} {P : List (Value × Value)} (h : Cw w base v P) (hb : Below w.heap.size w w') : Cw w' base v P := Bk.own_later h hb
theorem run_app_claims {w : World} (ty : TypeId) (base : Nat) (v : Value) (P : List (Value × Value)) (hown : Cw w base v P) (A : Option Addr) (m c : Nat) (Q : List (Value × Value)) (hr : Gt 2 w.heap.size w A m c (pcl Q)) (h1 : ∀ u ∈ pcl Q, u.oneCell' = true) (hb : P.length + m ≤ 1000000) (hbase : base ≤ w.heap.size) :
    ∃ A' n' c' w', (Builtin.append_ #[44, 44] ty #[v, .slice A m c]).run Tryz.prog w = .ok (.slice A' n' c') w' ∧ n' = (P ++ Q).length ∧ Cw w' base (.slice A' n' c') (P ++ Q) ∧ Below base w w' ∧ w.grownBy w' v.ownBlock ∧ ((Value.slice A' n' c').ownBlock = v.ownBlock ∨ (Value.slice A' n' c').ownBlock = some w.heap.size) := by
  obtain ⟨i0, hi, hz0, hz1, hz2⟩ := info_parts Tryz.infoClaim
  obtain ⟨v', w', hrun, h2, h3, h4⟩ := run_appG 44 64 i0 _ 2 48 Tryz.underlying44 hi hz0 hz1 hz2 rfl (by decide) (by decide) ty base v P.length (pcl P) hown A m c (pcl Q) hr h1 hb hbase
  obtain ⟨A', c', rfl⟩ := own_form h2
  have e : P.length + m = (P ++ Q).length := by
    have := hr.len
    rw [pcl_length] at this
    rw [List.length_append]; omega
  refine ⟨A', _, c', w', hrun, e, by unfold Cw; rw [pcl_app, ← e]; exact h2, Below.grown (Below.refl _ _) h3 hbase (fun k hk => (World.ownsRow.lt hown k hk).1), h3, h4⟩
theorem app_claims {w : World} {ops : Array Oper} {rest : List Oper} {o : Oper} {a : Act} {Q : Exit → Act → World → Prop} (hgd : o.guard = none) (s x : Operand)
    (ho : o.op = .call { callee := .builtin .append, args := #[s, x], argTypes := #[44, 44] })
    (base : Nat) (v : Value) (P : List (Value × Value)) (hs : a.eval s = v) (hown : Cw w base v P)
    (A : Option Addr) (m c : Nat) (R : List (Value × Value)) (hx : a.eval x = .slice A m c) (hr : Gt 2 w.heap.size w A m c (pcl R)) (h1 : ∀ u ∈ pcl R, u.oneCell' = true) (hb : P.length + m ≤ 1000000) (hbase : base ≤ w.heap.size)
    (h : ∀ A' n' c' w', n' = (P ++ R).length → Cw w' base (.slice A' n' c') (P ++ R) → Below base w w' → w.grownBy w' v.ownBlock → ((Value.slice A' n' c').ownBlock = v.ownBlock ∨ (Value.slice A' n' c').ownBlock = some w.heap.size) → wpList Tryz.prog ops Q rest (a.put o.dst (.slice A' n' c')) w') : wpList Tryz.prog ops Q (o :: rest) a w := by
  obtain ⟨A', n', c', w', hrun, h2, h3, h4, h5, h6⟩ := run_app_claims o.type base v P hown A m c R hr h1 hb hbase
  refine wpList_plain hgd fun K hK => ?_
  unfold Oper.wp execOp
  simp only [ho, resolve, invoke, builtin, Sem.run_bind, Sem.run_pure, Result.andThen_ok, List.map_toArray, List.map_cons, List.map_nil, hs, hx, hrun]
  exact hK _ _ (h A' n' c' w' h2 h3 h4 h5 h6)
/-- Claims are told, at a slice of the call's own. -/
def ClsTold (D : Cm) (w : World) (e : Ending) (w' : World) : Prop := ∃ A m c, e = .returned (.slice A m c) ∧ Cl w'.heap.size w' A m c D ∧ Below w.heap.size w w'
theorem cl_of {w0 w' : World} {base : Nat} {A : Option Addr} {n c : Nat} {P : List (Value × Value)} {D : Cm} (h : Cw w' base (.slice A n c) P) (hr : Rd w'.heap.size w' P D) : Cl w'.heap.size w' A n c D := ⟨P, h.gt.2, hr⟩
end Go.Proofs.YtakgkocdkondhaaGreatDoor.Bk
end

section
namespace Go.Proofs.YtakgkocdkondhaaGreatDoor.Bk
open Go.RowKit

/-- Two claims, each of one zone held and one needed. -/
def pair8 (x1 x2 x3 x4 : Int) : Cm := [([x1], [x2]), ([x3], [x4])]
def one8 (b : Nat) : Value := .slice (some ⟨b, 0, none⟩) 1 1
def lay8 (w : World) (n : Nat) (x1 x2 x3 x4 : Int) : World := ((((w.alloc (.cells #[.int .i64 x1] 3)).alloc (.cells #[.int .i64 x2] 3)).alloc (.cells #[.int .i64 x3] 3)).alloc (.cells #[.int .i64 x4] 3)).alloc
  (.cells #[one8 n, one8 (n + 1), one8 (n + 1 + 1), one8 (n + 1 + 1 + 1)] 64)
end Go.Proofs.YtakgkocdkondhaaGreatDoor.Bk
end

section
namespace Go.Proofs.YtakgkocdkondhaaGreatDoor.Bk
open Go.RowKit

theorem own_put {w : World} {base k g n m c x : Nat} {e : TypeId} {xs : List Value} (h : w.ownsRow base e k (.slice (some ⟨g, 0, none⟩) m c) n xs) (hx : x < xs.length) (v : Value) : (w.setCell ⟨g, x, none⟩ v).ownsRow base e k (.slice (some ⟨g, 0, none⟩) m c) n (xs.set x v) := by
  refine ⟨by rw [List.length_set]; exact h.1, ?_⟩
  rcases h.2 with ⟨q, _⟩ | ⟨g', cap, cur, q, hg, hh, h1, h2, h3, h4⟩
  · cases q
  · injection q with q1 q2 q3
    injection q1 with q1
    injection q1 with q1
    subst q1 q3
    refine .inr ⟨g, c, cur.setIfInBounds x v, by rw [q2], hg, heap_setCell_same w g x cur e v hh, h1, h2, by simpa using h3, ?_⟩
    rw [Array.toList_setIfInBounds, List.take_set, h4]
section
variable {w : World} {base g m c i : Nat} {P : List (Value × Value)} {p : Value × Value}
end
/-- One's own claims, of which one is another one. -/
structure Yst (w0 : World) (g m c i : Nat) (P : List (Value × Value)) (D : Cm) (wy : World) : Prop where
  below : Below w0.heap.size w0 wy
  ex : ∃ q e, Cw wy w0.heap.size (.slice (some ⟨g, 0, none⟩) m c) (P.set i q) ∧ Rd w0.heap.size wy (P.set i q) (D.set i e)
end Go.Proofs.YtakgkocdkondhaaGreatDoor.Bk
end
