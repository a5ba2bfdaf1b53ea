/-
  Layer 9: a list of lists of numbers, of one's own.
-/
import Derived.Test.YtnbdgijppdiecaaLkF
set_option linter.unusedVariables false
set_option maxRecDepth 100000
namespace Go.Proofs.Ytnbdgijppdiecaa
namespace Lk
open Go.RowKit Bk

theorem Try.infoInts9 : (Try.prog.info? 39).map (fun i => (i.zero, i.size, i.bytes)) = some (some (.slice none 0 0), 1, 24) := by kernel_rfl
/-- Lists of numbers, of one's own, in a list of one's own. -/
def Ls9 (w : World) (base : Nat) (v : Value) (LL : List (List Int)) : Prop :=
  ∃ xs : List Value, w.ownsRow base 39 1 v LL.length xs ∧ ∀ i, i < LL.length → ∃ x, xs[i]? = some x ∧ Iw w base x (LL.getD i [])
theorem iw_low9 {w : World} {base base' : Nat} {v : Value} {L : List Int} (h : Iw w base v L) (hb : base' ≤ base) : Iw w base' v L := own_lower h hb
theorem Ls9.nil (w : World) (base : Nat) : Ls9 w base (.slice none 0 0) [] := ⟨[], World.ownsRow_nil _ _ _ _, fun i h => by simp at h⟩
theorem Ls9.later {w w' : World} {base : Nat} {v : Value} {LL : List (List Int)} (h : Ls9 w base v LL) (hb : Below w.heap.size w w') : Ls9 w' base v LL := by
  obtain ⟨xs, h1, h2⟩ := h
  refine ⟨xs, Bk.own_later h1 hb, fun i hi => ?_⟩
  obtain ⟨x, e, hx⟩ := h2 i hi
  exact ⟨x, e, hx.later hb⟩
theorem Ls9.lower {w : World} {base base' : Nat} {v : Value} {LL : List (List Int)} (h : Ls9 w base v LL) (hb : base' ≤ base) : Ls9 w base' v LL := by
  obtain ⟨xs, h1, h2⟩ := h
  refine ⟨xs, own_lower h1 hb, fun i hi => ?_⟩
  obtain ⟨x, e, hx⟩ := h2 i hi
  exact ⟨x, e, own_lower hx hb⟩
theorem apart9 {w : World} {base base' k k' n n' : Nat} {e e' : TypeId} {v v' : Value} {xs xs' : List Value} (h : w.ownsRow base e k v n xs) (h' : w.ownsRow base' e' k' v' n' xs') (hne : e ≠ e') : ∀ g, v.ownBlock = some g → v'.ownBlock ≠ some g := by
  intro g hg hg'
  obtain ⟨c, fz, h1⟩ := kind9 h g hg
  obtain ⟨c', fz', h2⟩ := kind9 h' g hg'
  have := h1.symm.trans h2
  injection this with this
  injection this with _ this _
  exact hne this
theorem own_only9 {w w' : World} {base g k n : Nat} {e : TypeId} {v : Value} {xs : List Value} {T : List Ow} (h : w.ownsRow base e k v n xs) (hT : LkAt w g T) (he : e ≠ 51) (ho : Only g w w') : w'.ownsRow base e k v n xs := by
  refine ownsRow_same h (fun k hk => Turn.block ho k (World.ownsRow.lt h k hk).2 ?_)
  rintro rfl
  obtain ⟨c, fz, hh⟩ := kind9 h _ hk
  have := hh.symm.trans hT.box
  injection this with this
  injection this with _ this _
  exact he this
theorem Ls9.only {w w' : World} {base g : Nat} {v : Value} {LL : List (List Int)} {T : List Ow} (h : Ls9 w base v LL) (hT : LkAt w g T) (ho : Only g w w') : Ls9 w' base v LL := by
  obtain ⟨xs, h1, h2⟩ := h
  refine ⟨xs, own_only9 h1 hT (by decide) ho, fun i hi => ?_⟩
  obtain ⟨x, e, hx⟩ := h2 i hi
  exact ⟨x, e, hx.only hT ho⟩
theorem Ls9.form {w : World} {base : Nat} {v : Value} {LL : List (List Int)} (h : Ls9 w base v LL) : ∃ A c, v = .slice A LL.length c := by
  obtain ⟨xs, h1, _⟩ := h
  exact own_form h1
/-- One of the lists. -/
theorem Ls9.cell {w : World} {base : Nat} {A : Option Addr} {n c : Nat} {LL : List (List Int)} (h : Ls9 w base (.slice A n c) LL) {i : Nat} (hi : i < LL.length) :
    n = LL.length ∧ n ≤ c ∧ c ≤ maxLen ∧ ∃ g off A' n' c', A = some ⟨g, off, none⟩ ∧ g < w.heap.size ∧ w.cell? ⟨g, off + i, none⟩ = some (.slice A' n' c') ∧ n' = (LL.getD i []).length ∧ Iw w base (.slice A' n' c') (LL.getD i []) := by
  obtain ⟨xs, h1, h2⟩ := h
  obtain ⟨x, e, hx⟩ := h2 i hi
  obtain ⟨rfl, hg⟩ := gt_own h1
  obtain ⟨g, off, e2, hg2, hc⟩ := Gt.cell hg (by omega)
  obtain ⟨A', c', rfl⟩ := own_form hx
  exact ⟨rfl, hg.le, hg.max, g, off, A', _, c', e2, hg2, by rw [hc i (by omega), e], rfl, hx⟩
/-- A list of numbers, in a block of its own. -/
theorem one9 (w : World) (A : Option Addr) (n c : Nat) : Gt 1 (w.alloc (.cells #[.slice A n c] 39)).heap.size (w.alloc (.cells #[.slice A n c] 39)) (some ⟨w.heap.size, 0, none⟩) 1 1 [.slice A n c] := by
  refine ⟨rfl, Nat.le_refl _, by unfold maxLen; omega, fun h => (by cases h), fun _ => ⟨w.heap.size, 0, rfl, by simp, fun j hj => ?_⟩⟩
  obtain rfl : j = 0 := by omega
  simp [World.cell?_alloc_new]
theorem app_list {w : World} {ops : Array Oper} {rest : List Oper} {o : Oper} {a : Act} {Q : Exit → Act → World → Prop} (hgd : o.guard = none) (s x : Operand) (ho : o.op = .call { callee := .builtin .append, args := #[s, x], argTypes := #[44, 44] })
    (base : Nat) (v : Value) (LL : List (List Int)) (hs : a.eval s = v) (hown : Ls9 w base v LL)
    (b : Addr) (A1 : Option Addr) (n1 c1 : Nat) (L : List Int) (hx : a.eval x = .slice (some b) 1 1) (hr : Gt 1 w.heap.size w (some b) 1 1 [.slice A1 n1 c1]) (hL : Iw w base (.slice A1 n1 c1) L) (hb : LL.length + 1 ≤ 1000000) (hbase : base ≤ w.heap.size)
    (h : ∀ A' n' c' w', n' = (LL ++ [L]).length → Ls9 w' base (.slice A' n' c') (LL ++ [L]) → Below base w w' → wpList Try.prog ops Q rest (a.put o.dst (.slice A' n' c')) w') : wpList Try.prog ops Q (o :: rest) a w := by
  obtain ⟨i0, hi, hz0, hz1, hz2⟩ := info_parts Try.infoInts9
  obtain ⟨xs, h1, h2⟩ := hown
  refine appG 44 39 i0 _ 1 24 Try.underlying44 hi hz0 hz1 hz2 rfl (by decide) (by decide) hgd s x ho base v LL.length xs hs h1 (some b) 1 1 [.slice A1 n1 c1] hx hr (by intro u hu; rw [List.mem_singleton.1 hu]; rfl) hb hbase ?_
  intro A' c' w' k1 k2 k3 k4
  have hxl : xs.length = LL.length := by have := h1.1; omega
  have hk : ∀ y M, Iw w base y M → Iw w' base y M := fun y M hy => ownsRow_same hy (fun g hg => k3.block g (World.ownsRow.lt hy g hg).2 (fun e => apart9 hy h1 (by decide) g hg e.symm))
  refine h A' _ c' w' (by simp) ⟨xs ++ [.slice A1 n1 c1], by rw [List.length_append]; exact k1, fun i hi => ?_⟩ k2
  rw [List.length_append] at hi
  by_cases e : i < LL.length
  · obtain ⟨x, e1, hx1⟩ := h2 i e
    refine ⟨x, by rw [List.getElem?_append_left (by omega)]; exact e1, ?_⟩
    rw [show (LL ++ [L]).getD i [] = LL.getD i [] by simp [List.getD, List.getElem?_append_left e]]
    exact hk x _ hx1
  · obtain rfl : i = LL.length := by simp at hi; omega
    refine ⟨.slice A1 n1 c1, by rw [List.getElem?_append_right (by omega), hxl]; simp, ?_⟩
    rw [show (LL ++ [L]).getD LL.length [] = L by simp [List.getD]]
    exact hk _ _ hL
theorem same9_two {w : World} {base base' : Nat} {A A' : Option Addr} {n n' c c' : Nat} {L : List Int} (h1 : Iw w base (.slice A n c) L) (h2 : Iw w base' (.slice A' n' c') L) (hn : n = L.length) (hn' : n' = L.length) (hl : L.length ≤ 26) :
    Calls Try.prog 15 #[.slice A n c, .slice A' n' c'] w fun e w' => e = .returned (.bool true) ∧ Below w.heap.size w w' := by
  subst hn
  subst hn'
  exact same9_yes A A' _ c c' L w h1.lt.2 h2.lt.2 (by omega)
/-- The zones of each of the first so many robots. -/
def ofs (T : List Ow) (j : Nat) : List (List Int) := (List.range j).map fun (r : Nat) => zns T ((r : Int), true) 26
theorem ofs_succ (T : List Ow) (j : Nat) : ofs T (j + 1) = ofs T j ++ [zns T ((j : Int), true) 26] := by simp [ofs, List.range_succ]
theorem ofs_len (T : List Ow) (j : Nat) : (ofs T j).length = j := by simp [ofs]
theorem ofs_get (T : List Ow) {j i : Nat} (h : i < j) : (ofs T j).getD i [] = zns T ((i : Int), true) 26 := by simp [ofs, List.getD, h]
theorem set_self9 {T : List Ow} {k : Nat} {p : Ow} (hk : k < T.length) (h : T.getD k (0, false) = p) : T.set k p = T := by
  apply List.ext_getElem (by simp)
  intro i h1 h2
  rw [List.getElem_set]
  split
  · rename_i e
    subst e
    rw [← h, List.getD, List.getElem?_eq_getElem hk]; rfl
  · rfl
/-- A zone is given, and taken back. -/
theorem hold_back {T : List Ow} (hT : Tb T) (r z : Int) :
    ((at9 T z).2 = false ∧ (hold9 T r z).1 = 0 → at9 (hold9 T r z).2 z = (r, true) ∧ rel9 (hold9 T r z).2 r z = (0, T)) ∧ (¬ ((at9 T z).2 = false ∧ (hold9 T r z).1 = 0) → (hold9 T r z).2 = T) := by
  unfold hold9
  by_cases h1 : Rb r ∧ Zo z
  · rw [if_neg (show ¬¬(Rb r ∧ Zo z) from fun q => q h1)]
    have hz1 := h1.2.1
    have hz2 := h1.2.2
    have hzl : z.toNat < T.length := by rw [hT.len]; omega
    have hat : at9 T z = T.getD z.toNat (0, false) := by unfold at9; rw [if_pos h1.2]
    by_cases h2 : (at9 T z).2 = true ∧ (at9 T z).1 ≠ r
    · rw [if_pos h2]
      exact ⟨fun h => (by cases h.2), fun _ => rfl⟩
    · rw [if_neg h2]
      constructor
      · intro h
        have h := h.1
        have e0 : T.getD z.toNat (0, false) = (0, false) := (free_eq hT (by omega)).2 (by rw [← hat]; exact h)
        have e1 : at9 (T.set z.toNat (r, true)) z = (r, true) := by rw [at9_set hT h1.2, if_pos rfl]
        refine ⟨e1, ?_⟩
        unfold rel9
        rw [if_neg (show ¬¬(Rb r ∧ Zo z) from fun q => q h1), if_pos e1, List.set_set, set_self9 hzl e0]
      · intro h
        have h3 : (at9 T z).2 = true := by
          cases q : (at9 T z).2
          · exact absurd ⟨q, rfl⟩ h
          · rfl
        have h4 : (at9 T z).1 = r := Classical.byContradiction fun q => h2 ⟨h3, q⟩
        exact set_self9 hzl (by rw [← hat]; exact Prod.ext h4 h3)
  · rw [if_pos h1]
    exact ⟨fun h => (by cases h.2), fun _ => rfl⟩
end Lk
end Go.Proofs.Ytnbdgijppdiecaa
