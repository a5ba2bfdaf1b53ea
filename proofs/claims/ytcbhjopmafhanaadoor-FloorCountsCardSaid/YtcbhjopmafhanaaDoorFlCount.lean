/-
  FloorCounts: its facts.
-/
import Derived.Test.YtcbhjopmafhanaaDoorFloorReachedW
set_option linter.unusedVariables false
namespace Go.Proofs.YtcbhjopmafhanaaDoor
open Go.RowKit Fl Go.Maps

section
variable {P : Program} (w : World) {ops : Array Oper} {rest : List Oper} {o : Oper} {a : Act} {Q : Exit → Act → World → Prop} {k : TypeId} {R : Value → Option (DataW Unit × List MemPlace)} {u : DataW Unit} {b n : Nat} {l : List Nat}
/-- How many there are (of a call's run: for a len behind a guard). -/
theorem set_len_run (h : SetOf P k R u w b n l) {t e : TypeId} (ht : P.underlying t = some (.map k e)) (ty : TypeId) : (Builtin.len_ #[t] ty #[.map (some b)]).run P w = .ok (.int .i64 (l.length : Int)) w := by
  obtain ⟨D, h1, h2, h3, h4⟩ := h
  rw [h1.len ht ty, h4]
end

/-- The walls, docks and lanes are all there is. -/
theorem all_three (z : Nat → Nat) : ∀ n, (∀ i, i < n → okc (z i) = true) → (pick (fun c => c == 35) z n).length + (pick isD z n).length + (pick isL z n).length = n
  | 0, _ => rfl
  | n + 1, h => by
    have ih := all_three z n (fun i hi => h i (by omega))
    have hn := h n (by omega)
    rw [pick_succ, pick_succ, pick_succ]
    simp only [List.length_append]
    unfold okc at hn
    cases h1 : isL (z n)
    · cases h2 : isD (z n)
      · rw [h1, h2] at hn
        simp at hn
        rw [hn]
        simp
        omega
      · have h3 : (z n == 35) = false := by
          unfold isD at h2
          simp at h2
          simp
          omega
        rw [h3]
        simp
        omega
    · have h3 : (z n == 35) = false := by
        unfold isL at h1
        simp at h1
        simp
        omega
      have h2 : isD (z n) = false := by
        unfold isL at h1
        unfold isD
        simp at h1
        simp
        omega
      rw [h3, h2]
      simp
      omega

/-- The docks of the first so many robots. -/
structure DockL (c : ByteArray) (k : Nat) (D : List Nat) : Prop where
  len : D.length = k
  nd : D.Nodup
  at_ : ∀ x, x ∈ D → x < c.size ∧ ∃ q, q < k ∧ Fl.at_ c x = 48 + q
theorem DockL.start (c : ByteArray) : DockL c 0 [] := ⟨rfl, by simp, fun x h => absurd h (by simp)⟩
theorem DockL.fresh {c : ByteArray} {k d : Nat} {D : List Nat} (h : DockL c k D) (hd : IsFirst c (48 + k) d) : d ∉ D := by
  intro hin
  obtain ⟨_, q, hq, e⟩ := h.at_ d hin
  have := hd.2.1
  omega
theorem DockL.put {c : ByteArray} {k d : Nat} {D : List Nat} (h : DockL c k D) (hd : IsFirst c (48 + k) d) : DockL c (k + 1) (D ++ [d]) := by
  refine ⟨by simp [h.len], ?_, fun x hx => ?_⟩
  · rw [List.nodup_append]
    refine ⟨h.nd, by simp, fun x hx z hz e => ?_⟩
    rw [List.mem_singleton] at hz
    subst hz; subst e
    exact h.fresh hd hx
  · rcases List.mem_append.1 hx with i | i
    · obtain ⟨h1, q, hq, e⟩ := h.at_ x i
      exact ⟨h1, q, by omega, e⟩
    · rw [List.mem_singleton] at i
      subst i
      exact ⟨hd.1, k, by omega, hd.2.1⟩
theorem DockL.dock {c : ByteArray} {k : Nat} {D : List Nat} (h : DockL c k D) (hk : k ≤ 8) : ∀ x, x ∈ D → x < c.size ∧ isD (Fl.at_ c x) = true := by
  intro x hx
  obtain ⟨h1, q, hq, e⟩ := h.at_ x hx
  refine ⟨h1, ?_⟩
  rw [e]
  unfold isD
  simp
  omega

/-- The floor and both maps. -/
structure Maps2 (w w2 : World) (a b : Nat) (c : ByteArray) (D M : List Nat) (wz : World) : Prop where
  box : Box w2 (a : Int) (b : Int) c wz
  below : Below w.heap.size w wz
  docks : OnSet wz (w2.heap.size + 1) D
  lanes : OnSet wz (w2.heap.size + 1 + 1) M
theorem Maps2.later {w w2 wz wy : World} {a b : Nat} {c : ByteArray} {D M : List Nat} (h : Maps2 w w2 a b c D M wz) (hb : Below wz.heap.size wz wy) : Maps2 w w2 a b c D M wy :=
  ⟨h.box.after hb, h.below.trans (hb.mono h.below.size), h.docks.later hb, h.lanes.later hb⟩
theorem Maps2.dock {w w2 wz wy : World} {a b : Nat} {c : ByteArray} {D M : List Nat} {d : Nat} (h : Maps2 w w2 a b c D M wz) (h2 : w.heap.size ≤ w2.heap.size)
    (hs : SetOf Tryd.prog 3 (plainElem Tryd.prog 4) (.lit (.bool true)) wy (w2.heap.size + 1) (D.length + 1) (D ++ [d])) (hg : wz.grownBy wy (some (w2.heap.size + 1))) : Maps2 w w2 a b c (D ++ [d]) M wy :=
  ⟨h.box.later (Below.grown (Below.refl _ _) hg h.box.lt (fun j hj => by cases hj; exact Nat.le_refl _)),
   h.below.trans (Below.grown (Below.refl _ _) hg h.below.size (fun j hj => by cases hj; omega)),
   by unfold OnSet; rw [show (D ++ [d]).length = D.length + 1 by simp]; exact hs,
   SetOf.kept h.lanes hg (by simp)⟩
theorem Maps2.lane {w w2 wz wy : World} {a b : Nat} {c : ByteArray} {D M : List Nat} {d : Nat} (h : Maps2 w w2 a b c D M wz) (h2 : w.heap.size ≤ w2.heap.size)
    (hs : SetOf Tryd.prog 3 (plainElem Tryd.prog 4) (.lit (.bool true)) wy (w2.heap.size + 1 + 1) (M.length + 1) (M ++ [d])) (hg : wz.grownBy wy (some (w2.heap.size + 1 + 1))) : Maps2 w w2 a b c D (M ++ [d]) wy :=
  ⟨h.box.later (Below.grown (Below.refl _ _) hg h.box.lt (fun j hj => by cases hj; exact Nat.le_succ _)),
   h.below.trans (Below.grown (Below.refl _ _) hg h.below.size (fun j hj => by cases hj; omega)),
   SetOf.kept h.docks hg (by simp),
   by unfold OnSet; rw [show (M ++ [d]).length = M.length + 1 by simp]; exact hs⟩
theorem Maps2.start {w w2 : World} (a b : Nat) (c : ByteArray) (t : TypeId) (h : Below w.heap.size w w2) : Maps2 w w2 a b c [] [] (((w2.alloc (.cells #[.int .i64 (a : Int), .int .i64 (b : Int), .string c] t)).alloc (.map #[] 0)).alloc (.map #[] 0)) := by
  have hx := Box.start w2 (a : Int) (b : Int) c t
  have hb := h.alloc h.size (.cells #[.int .i64 (a : Int), .int .i64 (b : Int), .string c] t)
  have hz : (w2.alloc (.cells #[.int .i64 (a : Int), .int .i64 (b : Int), .string c] t)).heap.size = w2.heap.size + 1 := by simp
  generalize w2.alloc (.cells #[.int .i64 (a : Int), .int .i64 (b : Int), .string c] t) = wa at *
  have b1 := (Below.refl wa.heap.size wa).alloc (Nat.le_refl _) (.map #[] 0)
  have m1 := SetOf.made Tryd.prog 3 (plainElem Tryd.prog 4) (.lit (.bool true)) wa
  have hz1 : (wa.alloc (.map #[] 0)).heap.size = w2.heap.size + 1 + 1 := by simp [hz]
  generalize wa.alloc (.map #[] 0) = wb at *
  have b2 := (Below.refl wb.heap.size wb).alloc (Nat.le_refl _) (.map #[] 0)
  have m2 := SetOf.made Tryd.prog 3 (plainElem Tryd.prog 4) (.lit (.bool true)) wb
  rw [hz] at m1
  have h1 : OnSet wb (w2.heap.size + 1) [] := m1
  rw [hz1] at m2
  exact ⟨(hx.after b1).after b2, (hb.trans (b1.mono hb.size)).trans (b2.mono (Nat.le_trans hb.size b1.size)), h1.later b2, m2⟩
theorem own_lane {w w2 wz wy : World} {a b : Nat} {c : ByteArray} {D M l : List Nat} {B : Nat} {v : Value} (h : Maps2 w w2 a b c D M wz) (ho : Own wz B v l) (hg : wz.grownBy wy (some (w2.heap.size + 1 + 1))) : Own wy B v l :=
  World.ownsRow.kept ho hg (Or.inr (own_map_ne ho h.lanes).symm)
theorem take_one {xs : List Nat} {l : Nat} (h : l < xs.length) : xs.take (l + 1) = xs.take l ++ [xs.getD l 0] := by
  rw [List.take_succ_eq_append_getElem h, List.getD_eq_getElem?_getD, List.getElem?_eq_getElem h]
  rfl
theorem not_taken {xs : List Nat} (hn : xs.Nodup) {l : Nat} (h : l < xs.length) : xs.getD l 0 ∉ xs.take l := by
  intro hin
  have h1 : (xs.take l ++ [xs.getD l 0]).Nodup := by rw [← take_one h]; exact hn.sublist (List.take_sublist _ _)
  rw [List.nodup_append] at h1
  exact h1.2.2 _ hin _ (by simp) rfl
end Go.Proofs.YtcbhjopmafhanaaDoor
