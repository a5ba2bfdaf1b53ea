/-
  Layer 8: claims but one (without); the document's examples (shown).
-/
import Derived.Test.YtljmigomhoefpaaBkH
import Derived.Deep.RegionHeld3
import Derived.Deep.RegionLaw
set_option linter.unusedVariables false
set_option maxRecDepth 100000
namespace Go.Proofs.Ytljmigomhoefpaa.Bk
open Go.RowKit

/-- Claims of one's own. -/
def Cw (w : World) (base : Nat) (v : Value) (P : List (Value × Value)) : Prop := w.ownsRow base 33 2 v P.length (pcl P)
theorem Cw.gt {w : World} {base : Nat} {A : Option Addr} {n cap : Nat} {P : List (Value × Value)} (h : Cw w base (.slice A n cap) P) : n = P.length ∧ Gt 2 w.heap.size w A n cap (pcl P) := by
  obtain ⟨rfl, h2⟩ := gt_own h
  exact ⟨rfl, h2⟩
theorem Cw.later {w w' : World} {base : Nat} {v : Value} {P : List (Value × Value)} (h : Cw w base v P) (hb : Below w.heap.size w w') : Cw w' base v P := Bk.own_later h hb
theorem Cw.empty (w : World) (base : Nat) (hb : base ≤ w.heap.size) : Cw (w.alloc (.cells #[] 33)) base (.slice (some ⟨w.heap.size, 0, none⟩) 0 0) [] := own_empty w 33 2 base hb
theorem run_app_claims {w : World} (ty : TypeId) (base : Nat) (v : Value) (P : List (Value × Value)) (hown : Cw w base v P) (A : Option Addr) (m c : Nat) (Q : List (Value × Value)) (hr : Gt 2 w.heap.size w A m c (pcl Q)) (h1 : ∀ u ∈ pcl Q, u.oneCell' = true) (hb : P.length + m ≤ 1000000) (hbase : base ≤ w.heap.size) :
    ∃ A' n' c' w', (Builtin.append_ #[22, 22] ty #[v, .slice A m c]).run Try.prog w = .ok (.slice A' n' c') w' ∧ n' = (P ++ Q).length ∧ Cw w' base (.slice A' n' c') (P ++ Q) ∧ Below base w w' ∧ w.grownBy w' v.ownBlock ∧ ((Value.slice A' n' c').ownBlock = v.ownBlock ∨ (Value.slice A' n' c').ownBlock = some w.heap.size) := by
  obtain ⟨i0, hi, hz0, hz1, hz2⟩ := info_parts Try.infoClaim
  obtain ⟨v', w', hrun, h2, h3, h4⟩ := run_appG 22 33 i0 _ 2 48 Try.underlying22 hi hz0 hz1 hz2 rfl (by decide) (by decide) ty base v P.length (pcl P) hown A m c (pcl Q) hr h1 hb hbase
  obtain ⟨A', c', rfl⟩ := own_form h2
  have e : P.length + m = (P ++ Q).length := by
    have := hr.len
    rw [pcl_length] at this
    rw [List.length_append]; omega
  refine ⟨A', _, c', w', hrun, e, by unfold Cw; rw [pcl_app, ← e]; exact h2, Below.grown (Below.refl _ _) h3 hbase (fun k hk => (World.ownsRow.lt hown k hk).1), h3, h4⟩
/-- At a step of a region that draws its order. -/
theorem step_app_claims {w : World} {ops : Array Oper} {o : Oper} {a : Act} {K : Act → World → Prop} {Q : Exit → Act → World → Prop} {F : Prop} (hgd : o.guard = none) (s x : Operand)
    (ho : o.op = .call { callee := .builtin .append, args := #[s, x], argTypes := #[22, 22] })
    (base : Nat) (v : Value) (P : List (Value × Value)) (hs : a.eval s = v) (hown : Cw w base v P)
    (A : Option Addr) (m c : Nat) (R : List (Value × Value)) (hx : a.eval x = .slice A m c) (hr : Gt 2 w.heap.size w A m c (pcl R)) (h1 : ∀ u ∈ pcl R, u.oneCell' = true) (hb : P.length + m ≤ 1000000) (hbase : base ≤ w.heap.size)
    (h : ∀ A' n' c' w', n' = (P ++ R).length → Cw w' base (.slice A' n' c') (P ++ R) → Below base w w' → K (a.put o.dst (.slice A' n' c')) w') : if Region.wanted o (yielded ops a.tmps) = true then Oper.wp Try.prog o a w K Q else F := by
  have hw : Region.wanted o (yielded ops a.tmps) = true := by simp [Region.wanted, hgd]
  rw [if_pos hw]
  obtain ⟨A', n', c', w', hrun, h2, h3, h4, _⟩ := run_app_claims o.type base v P hown A m c R hr h1 hb hbase
  unfold Oper.wp execOp
  simp only [ho, resolve, invoke, builtin, Sem.run_bind, Sem.run_pure, Result.andThen_ok, List.map_toArray, List.map_cons, List.map_nil, hs, hx, hrun]
  exact h A' n' c' w' h2 h3 h4
theorem app_claims {w : World} {ops : Array Oper} {rest : List Oper} {o : Oper} {a : Act} {Q : Exit → Act → World → Prop} (hgd : o.guard = none) (s x : Operand)
    (ho : o.op = .call { callee := .builtin .append, args := #[s, x], argTypes := #[22, 22] })
    (base : Nat) (v : Value) (P : List (Value × Value)) (hs : a.eval s = v) (hown : Cw w base v P)
    (A : Option Addr) (m c : Nat) (R : List (Value × Value)) (hx : a.eval x = .slice A m c) (hr : Gt 2 w.heap.size w A m c (pcl R)) (h1 : ∀ u ∈ pcl R, u.oneCell' = true) (hb : P.length + m ≤ 1000000) (hbase : base ≤ w.heap.size)
    (h : ∀ A' n' c' w', n' = (P ++ R).length → Cw w' base (.slice A' n' c') (P ++ R) → Below base w w' → w.grownBy w' v.ownBlock → ((Value.slice A' n' c').ownBlock = v.ownBlock ∨ (Value.slice A' n' c').ownBlock = some w.heap.size) → wpList Try.prog ops Q rest (a.put o.dst (.slice A' n' c')) w') : wpList Try.prog ops Q (o :: rest) a w := by
  obtain ⟨A', n', c', w', hrun, h2, h3, h4, h5, h6⟩ := run_app_claims o.type base v P hown A m c R hr h1 hb hbase
  refine wpList_plain hgd fun K hK => ?_
  unfold Oper.wp execOp
  simp only [ho, resolve, invoke, builtin, Sem.run_bind, Sem.run_pure, Result.andThen_ok, List.map_toArray, List.map_cons, List.map_nil, hs, hx, hrun]
  exact hK _ _ (h A' n' c' w' h2 h3 h4 h5 h6)
/-- Claims are told, at a slice of the call's own. -/
def ClsTold (D : Cm) (w : World) (e : Ending) (w' : World) : Prop := ∃ A m c, e = .returned (.slice A m c) ∧ Cl w'.heap.size w' A m c D ∧ Below w.heap.size w w'
theorem cl_of {w0 w' : World} {base : Nat} {A : Option Addr} {n c : Nat} {P : List (Value × Value)} {D : Cm} (h : Cw w' base (.slice A n c) P) (hr : Rd w'.heap.size w' P D) : Cl w'.heap.size w' A n c D := ⟨P, h.gt.2, hr⟩
set_option maxHeartbeats 2000000 in
theorem without_any (A : Option Addr) (n cap : Nat) (C : Cm) (i : Nat) (w : World) (h : Cl w.heap.size w A n cap C) (hi : i < n) (hn : n ≤ 9) : Calls Try.prog 21 #[.slice A n cap, .int .i64 (i : Int)] w (ClsTold (C.eraseIdx i) w) := by
  obtain ⟨g, off, _, _, _, _, _, _, rfl, _⟩ := h.cell hi
  have hs := h.size
  have hs1 := hs.1
  have hs2 := hs.2
  have HN := Lib.hid h.len
  obtain ⟨P, h1, h2⟩ := h
  have HG1 : Hid (Gt 2 w.heap.size w (some ⟨g, off, none⟩) i cap (pcl (P.take i))) := Lib.hid (by rw [pcl_take]; exact h1.cut (by omega))
  have HO1 := Lib.hid (h2.take i).one
  have HO2 := Lib.hid (h2.drop (i + 1)).one
  have HR : Hid (Rd w.heap.size w (P.take i ++ P.drop (i + 1)) (C.eraseIdx i)) := Lib.hid (by rw [List.eraseIdx_eq_take_drop_succ]; exact (h2.take i).app (h2.drop (i + 1)))
  have hil : (i : Int) ≤ (cap : Int) := by omega
  have hil2 : (i : Int) + 1 ≤ (n : Int) := by omega
  have hnc : (n : Int) ≤ (cap : Int) := by omega
  have hi0 : (0 : Int) ≤ (i : Int) := by omega
  have hi1 : (0 : Int) ≤ (i : Int) + 1 := by omega
  have hi2 : (i : Int) + 1 ≤ (cap : Int) := by omega
  have hiw : IntKind.i64.wrap ((i : Int) + 1) = (i : Int) + 1 := IntWalk.i64_in _ (by omega)
  have HB0 := Lib.hid (((Below.refl w.heap.size w).alloc (Nat.le_refl _) (.cells #[] 33)).drew)
  have HSA : Hid (w.heap.size ≤ (w.alloc (.cells #[] 33)).drew.heap.size) := Lib.hid (by rw [show (w.alloc (.cells #[] 33)).drew.heap.size = w.heap.size + 1 by simp [World.drew]]; exact Nat.le_succ _)
  have HL1 : Hid (([] : List (Value × Value)).length + i ≤ 1000000) := Lib.hid (by simp; omega)
  by_cases hcap : cap = i + 1
  · have HG2 : Hid (Gt 2 w.heap.size w (some ⟨g, off, none⟩) 0 0 (pcl (P.drop (i + 1)))) := Lib.hid (by
      have := h1.tail (m := i + 1) (by omega) (some ⟨g, off, none⟩) (by simp) (fun h => by omega)
      rw [pcl_drop]
      rwa [show n - (i + 1) = 0 by omega, show cap - (i + 1) = 0 by omega] at this)
    have HL2 : Hid (([] ++ P.take i).length + 0 ≤ 1000000) := Lib.hid (by simp; omega)
    obtain rfl : cap = n := by omega
    have hcap' : i + 1 = cap := hcap.symm
    clear h1 h2 hs hcap
    go_enter Try.func21, Try.ntmps21
    go_wp2_with fail
    go_region_held3 (fun _ => True) (trivial) ((first
      | ((fail_if_success have _k := HO4); refine step_app_claims (by rfl) _ _ (by rfl) w.heap.size (.slice (some ⟨w.heap.size, 0, none⟩) 0 0) [] (by rfl) (Cw.empty w.drew w.heap.size (Nat.le_refl _)) _ i cap (P.take i) (by rfl) ((HG1.out.below HB0.out).raise HSA.out) HO1.out HL1.out HSA.out ?_; intro A4 n4 c4 w4 hn4 ho4 hb4; have HO4 := Lib.hid ho4; have HB4 := Lib.hid (HB0.out.trans hb4); clear ho4 hb4 hn4)
      | (have _k := HO4; refine step_app_claims (by rfl) _ _ (by rfl) w.heap.size _ ([] ++ P.take i) (by rfl) HO4.out _ _ _ (P.drop (i + 1)) (by rfl) ((HG2.out.below HB4.out).raise HB4.out.size) HO2.out HL2.out HB4.out.size ?_; intro A5 n5 c5 w5 hn5 ho5 hb5; have HO5 := Lib.hid ho5; have HB5 := Lib.hid (HB4.out.trans hb5); clear ho5 hb5 hn5)
      | fail))
    go_wp2_with fail
    go_ret
    exact ⟨_, _, _, rfl, cl_of (w0 := w) HO5.out ((HR.out.below HB5.out).raise HB5.out.size), HB5.out⟩
  · have HG2 : Hid (Gt 2 w.heap.size w (some ⟨g, off + (i + 1) * 2, none⟩) (n - (i + 1)) (cap - (i + 1)) (pcl (P.drop (i + 1)))) := Lib.hid (by
      rw [pcl_drop]; exact h1.tail (by omega) _ (by simp) (fun h => rfl))
    have HL2 : Hid (([] ++ P.take i).length + (n - (i + 1)) ≤ 1000000) := Lib.hid (by simp; omega)
    clear h1 h2 hs
    go_enter Try.func21, Try.ntmps21
    go_wp2_with fail
    go_region_held3 (fun _ => True) (trivial) ((first
      | ((fail_if_success have _k := HO4); refine step_app_claims (by rfl) _ _ (by rfl) w.heap.size (.slice (some ⟨w.heap.size, 0, none⟩) 0 0) [] (by rfl) (Cw.empty w.drew w.heap.size (Nat.le_refl _)) _ i cap (P.take i) (by rfl) ((HG1.out.below HB0.out).raise HSA.out) HO1.out HL1.out HSA.out ?_; intro A4 n4 c4 w4 hn4 ho4 hb4; have HO4 := Lib.hid ho4; have HB4 := Lib.hid (HB0.out.trans hb4); clear ho4 hb4 hn4)
      | (have _k := HO4; refine step_app_claims (by rfl) _ _ (by rfl) w.heap.size _ ([] ++ P.take i) (by rfl) HO4.out _ _ _ (P.drop (i + 1)) (by rfl) ((HG2.out.below HB4.out).raise HB4.out.size) HO2.out HL2.out HB4.out.size ?_; intro A5 n5 c5 w5 hn5 ho5 hb5; have HO5 := Lib.hid ho5; have HB5 := Lib.hid (HB4.out.trans hb5); clear ho5 hb5 hn5)
      | fail))
    go_wp2_with fail
    go_ret
    exact ⟨_, _, _, rfl, cl_of (w0 := w) HO5.out ((HR.out.below HB5.out).raise HB5.out.size), HB5.out⟩
end Go.Proofs.Ytljmigomhoefpaa.Bk
