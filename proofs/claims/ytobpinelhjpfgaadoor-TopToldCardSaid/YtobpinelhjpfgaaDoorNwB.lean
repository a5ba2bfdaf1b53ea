/-
  Layer 13: rows of bytes, each of one's own: one is appended, some are deleted (slices.Delete).
-/
import Derived.Test.YtobpinelhjpfgaaDoorNwA
set_option linter.unusedVariables false
set_option maxRecDepth 100000
namespace Go.Proofs.YtobpinelhjpfgaaDoor
namespace Nw
open Go.RowKit Go.Maps Bk

/-- Slices of bytes in a row of one's own. -/
def Rw (w : World) (base : Nat) (v : Value) (P : List Value) : Prop := w.ownsRow base 35 1 v P.length P
theorem Rw.gt {w : World} {base : Nat} {A : Option Addr} {n cap : Nat} {P : List Value} (h : Rw w base (.slice A n cap) P) : n = P.length ∧ Gt 1 w.heap.size w A n cap P := by
  obtain ⟨rfl, h2⟩ := gt_own h
  exact ⟨rfl, h2⟩
theorem Rw.form {w : World} {base : Nat} {v : Value} {P : List Value} (h : Rw w base v P) : ∃ A c, v = .slice A P.length c := own_form h
theorem Rw.first {w : World} {base : Nat} {A : Option Addr} {n c : Nat} {L : List Value} (h : Rw w base (.slice A n c) L) (hl : L ≠ []) : ∃ g, A = Option.some ⟨g, 0, Option.none⟩ := by
  unfold Rw at h
  rcases h.2 with ⟨q, h0⟩ | ⟨g', cap', cur, q, _⟩
  · exact absurd (List.eq_nil_of_length_eq_zero h0) hl
  · injection q with q1
    exact ⟨g', q1⟩
/-- One value, in a block of its own. -/
theorem one_row (w : World) (e : TypeId) (u : Value) : Gt 1 (w.alloc (.cells #[u] e)).heap.size (w.alloc (.cells #[u] e)) (some ⟨w.heap.size, 0, none⟩) 1 1 [u] := by
  refine ⟨rfl, Nat.le_refl _, by unfold maxLen; omega, fun h => (by cases h), fun _ => ⟨w.heap.size, 0, rfl, by simp, fun j hj => ?_⟩⟩
  obtain rfl : j = 0 := by omega
  simp [World.cell?_alloc_new]
theorem app_rows {w : World} {ops : Array Oper} {rest : List Oper} {o : Oper} {a : Act} {Q : Exit → Act → World → Prop} (hgd : o.guard = none) (s x : Operand) (ho : o.op = .call { callee := .builtin .append, args := #[s, x], argTypes := #[109, 109] })
    (base : Nat) (v : Value) (xs : List Value) (hs : a.eval s = v) (hown : Rw w base v xs)
    (A : Option Addr) (m c : Nat) (ys : List Value) (hx : a.eval x = .slice A m c) (hr : Gt 1 w.heap.size w A m c ys) (h1 : ∀ u ∈ ys, u.oneCell' = true) (hb : xs.length + m ≤ 1000000) (hbase : base ≤ w.heap.size)
    (h : ∀ A' n' c' w', n' = (xs ++ ys).length → Rw w' base (.slice A' n' c') (xs ++ ys) → Below base w w' → w.grownBy w' v.ownBlock → ((Value.slice A' n' c').ownBlock = v.ownBlock ∨ (Value.slice A' n' c').ownBlock = some w.heap.size) → wpList Tryd.prog ops Q rest (a.put o.dst (.slice A' n' c')) w') : wpList Tryd.prog ops Q (o :: rest) a w := by
  obtain ⟨i0, hi, hz0, hz1, hz2⟩ := info_parts Tryd.infoBytes
  refine appG 109 35 i0 _ 1 24 Tryd.underlying109 hi hz0 hz1 hz2 rfl (by decide) (by decide) hgd s x ho base v xs.length xs hs hown A m c ys hx hr h1 hb hbase ?_
  intro A' c' w' h1 h2 h3 h4
  have hm : ys.length = m := by simpa using hr.len
  have e : xs.length + m = (xs ++ ys).length := by rw [List.length_append, hm]
  refine h A' _ c' w' e (by unfold Rw; rw [← e]; exact h1) h2 h3 h4

/-- A block of rows. -/
def Blk (w : World) (g : Nat) (X : List Value) : Prop := w.heap[g]? = some (.cells X.toArray 35 (0, 0))
theorem take_splice {α : Type} (X cs : List α) (o : Nat) (h : o ≤ X.length) : (splice X o cs).take o = X.take o := by
  unfold splice
  rw [List.take_append_of_le_length (by simp; omega), List.take_take, Nat.min_self]
theorem take_splice_end {α : Type} (X cs : List α) (o : Nat) (h : o ≤ X.length) : (splice X o cs).take (o + cs.length) = X.take o ++ cs := by
  unfold splice
  rw [← List.append_assoc, List.take_append_of_le_length (by simp; omega)]
  exact List.take_of_length_le (by simp; omega)
theorem splice_cons {α : Type} (X r : List α) (o : Nat) (v : α) (h : o < X.length) : splice (X.set o v) (o + 1) r = splice X o (v :: r) := by
  unfold splice
  have e1 : (X.set o v).take (o + 1) = X.take o ++ [v] := by
    rw [List.take_set, List.take_succ_eq_append_getElem h, List.set_append_right _ _ (by simp; omega)]
    simp [Nat.min_eq_left (Nat.le_of_lt h)]
  have e2 : (X.set o v).drop (o + 1 + r.length) = X.drop (o + (v :: r).length) := by
    rw [List.drop_set, if_pos (by omega)]
    congr 1
    simp; omega
  rw [e1, e2, List.append_assoc]
  rfl
theorem splice_nil {α : Type} (X : List α) (o : Nat) : splice X o [] = X := by simp [splice]
theorem Blk.setCells {g : Nat} : ∀ (news : List Value) (o : Nat) (X : List Value) (w : World), Blk w g X → o + news.length ≤ X.length → Blk (w.setCells g o news) g (splice X o news)
  | [], o, X, w, h, _ => by rw [splice_nil]; exact h
  | v :: r, o, X, w, h, hl => by
    simp only [List.length_cons] at hl
    have h1 : Blk (w.setCell ⟨g, o, none⟩ v) g (X.set o v) := by
      unfold Blk
      rw [heap_setCell_same w g o _ _ _ h]
      simp
    rw [← splice_cons X r o v (by omega)]
    exact Blk.setCells r (o + 1) (X.set o v) (w.setCell ⟨g, o, none⟩ v) h1 (by rw [List.length_set]; omega)
theorem setCells_turn (g : Nat) : ∀ (news : List Value) (o : Nat) (w : World), w.grownBy (w.setCells g o news) (some g)
  | [], o, w => ⟨rfl, rfl, rfl, Nat.le_refl _, fun _ _ _ => rfl⟩
  | v :: r, o, w => by
    have h1 := setCells_turn g r (o + 1) (w.setCell ⟨g, o, none⟩ v)
    have hz : (w.setCell ⟨g, o, none⟩ v).heap.size = w.heap.size := by simp [World.setCell]
    exact ⟨h1.os, h1.tape, h1.output, by have := h1.size; rw [hz] at this; exact this, fun k hk hne => (h1.block k (by rw [hz]; exact hk) hne).trans (Below.heap_setCell _ _ _ _ (fun e => hne (by rw [e])))⟩
theorem Blk.cell {w : World} {g : Nat} {X : List Value} (h : Blk w g X) (j : Nat) : w.cell? ⟨g, j, none⟩ = X[j]? ∧ w.frozen? ⟨g, j, none⟩ = false :=
  ⟨by rw [cell_of_row w g j _ _ _ h]; simp, frozen_of_row w g j _ _ h⟩
theorem Rw.blk {w : World} {base g n c : Nat} {L : List Value} (h : Rw w base (.slice (some ⟨g, 0, none⟩) n c) L) : base ≤ g ∧ ∃ X, Blk w g X ∧ n = L.length ∧ n ≤ c ∧ c ≤ maxLen ∧ X.length = c ∧ X.take L.length = L := by
  unfold Rw at h
  rcases h.2 with ⟨q, h0⟩ | ⟨g', cap', cur, q, hg, hh, h1, h2, h3, h4⟩
  · cases q
  · injection q with q1 q2 q3
    injection q1 with q1
    injection q1 with q1
    subst q1 q3
    exact ⟨hg, cur.toList, by unfold Blk; simpa using hh, q2, by omega, h2, by simpa using h3, by simpa using h4⟩
theorem Rw.ofBlk {w : World} {base g c : Nat} {L : List Value} {X : List Value} (h : Blk w g X) (hb : base ≤ g) (hn : L.length ≤ c) (hc : c ≤ maxLen) (hX : X.length = c) (hT : X.take L.length = L) : Rw w base (.slice (some ⟨g, 0, none⟩) L.length c) L :=
  ⟨by simp, .inr ⟨g, c, X.toArray, rfl, hb, h, hn, hc, by simpa using hX, by simpa using hT⟩⟩
theorem zero_rows (n : Nat) : (Builtin.zeroCells #[.slice none 0 0] n).toList = List.replicate n (.slice none 0 0) := by
  simp only [Builtin.zeroCells]
  apply List.ext_getElem
  · simp
  · intro i h1 h2
    simp [Nat.mod_one]
theorem run_clear_rows (w : World) (ty : TypeId) (g o n c : Nat) (X : List Value) (h : Blk w g X) (hn : 0 < n) (hf : o + n ≤ X.length) :
    (Builtin.clear_ #[109] ty #[.slice (some ⟨g, o, none⟩) n c]).run Tryd.prog w = .ok (.tuple #[]) (w.setCells g o (List.replicate n (.slice none 0 0))) := by
  have hv : ∀ w, (zeroValue 35).run Tryd.prog w = .ok (.slice none 0 0) w := fun w => by kernel_rfl
  have hzc := zero_rows n
  have hcells : (Value.slice none 0 0).cells = #[.slice none 0 0] := by kernel_rfl
  have hst := run_storeCells_cells (P := Tryd.prog) g o (List.replicate n (Value.slice none 0 0)) 0 w (fun j hj => by
      rw [List.length_replicate] at hj
      rw [Nat.add_zero, (h.cell (o + j)).1, List.getElem?_eq_getElem (by omega)]; rfl) (fun j hj => (h.cell (o + 0 + j)).2) (by intro v hv'; rw [List.eq_of_mem_replicate hv']; rfl)
  simp only [Nat.add_zero] at hst
  obtain ⟨m, rfl⟩ : ∃ m, n = m + 1 := ⟨n - 1, by omega⟩
  simp [Builtin.clear_, run_underlying Tryd.underlying109, hv, hcells, hzc, hst]
set_option maxHeartbeats 2000000 in
/-- slices.Delete of some rows of one's own. -/
theorem delete_any (base g c : Nat) (L : List Value) (i j n : Nat) (w : World) (h : Rw w base (.slice (some ⟨g, 0, none⟩) n c) L) (hij : i < j) (hjn : j ≤ n) (hn : L.length = n) (hl : L.length ≤ 100000) (h1c : ∀ u ∈ L, u.oneCell' = true) :
    Calls Tryd.prog 93 #[.slice (some ⟨g, 0, none⟩) n c, .int .i64 (i : Int), .int .i64 (j : Int)] w fun e w' => e = .returned (.slice (some ⟨g, 0, none⟩) (i + (n - j)) c) ∧ Rw w' base (.slice (some ⟨g, 0, none⟩) (i + (n - j)) c) (L.take i ++ L.drop j) ∧ w.grownBy w' (some g) := by
  obtain ⟨i0, hi, hz0, hz1, hz2⟩ := info_parts Tryd.infoBytes
  obtain ⟨hbg, X, hX, hnl, hlc, hcm, hXl, hXt⟩ := h.blk
  have hcm' := hcm
  unfold maxLen at hcm'
  have hijI : (i : Int) ≤ (j : Int) := by omega
  have dx : ((i : Int) == (j : Int)) = false := by rw [beq_eq_false_iff_ne]; omega
  have hjI : (j : Int) ≤ (n : Int) := by omega
  have hnc : (n : Int) ≤ (c : Int) := by omega
  have hic : i ≤ c := by omega
  have hjc : j ≤ c := by omega
  have hicI : (i : Int) ≤ (c : Int) := by omega
  have hjcI : (j : Int) ≤ (c : Int) := by omega
  obtain ⟨news, hnews⟩ : ∃ news, news = L.drop j := ⟨_, rfl⟩
  have hil : L.length = n := hn
  have hlen : news.length = (n - j) * 1 := by rw [hnews, List.length_drop, hil]; omega
  have hget : ∀ t u, news[t]? = some u → X[j + t]? = some u := fun t u hu => by
    have ht : t < (n - j) * 1 := by have := (List.getElem?_eq_some_iff.1 hu).1; omega
    rw [hnews, List.getElem?_drop, ← hXt, List.getElem?_take, if_pos (by omega)] at hu
    exact hu
  obtain ⟨ad, had, hsrc⟩ : ∃ ad : Addr, (if c = j then (some ⟨g, 0, none⟩ : Option Addr) else some ⟨g, j, none⟩) = some ad ∧ Hid (∀ t u, news[t]? = some u → w.drew.cell? (ad.add t) = some u) := by
    by_cases e : c = j
    · refine ⟨⟨g, 0, none⟩, by simp [e], fun t u hu => ?_⟩
      have ht : t < (n - j) * 1 := by have := (List.getElem?_eq_some_iff.1 hu).1; omega
      omega
    · refine ⟨⟨g, j, none⟩, by simp [e], fun t u hu => ?_⟩
      rw [add_at]
      exact ((hX.cell _).1).trans (hget t u hu)
  have s1 := Lib.hid hlen
  have s2 : Hid (∀ u ∈ news, u.oneCell' = true) := Lib.hid (fun u hu => h1c u (by rw [hnews] at hu; exact List.mem_of_mem_drop hu))
  have s3 : Hid (∀ t, t < news.length → (w.drew.cell? ⟨g, 0 + i * 1 + t, none⟩).isSome = true ∧ w.drew.frozen? ⟨g, 0 + i * 1 + t, none⟩ = false) := Lib.hid (fun t ht => by
    rw [hlen] at ht
    refine ⟨?_, (hX.cell _).2⟩
    show (w.cell? _).isSome = true
    rw [(hX.cell _).1, List.getElem?_eq_getElem (by omega)]; rfl)
  obtain ⟨W1, hW1⟩ : ∃ W1, W1 = w.drew.setCells g (0 + i * 1) news := ⟨_, rfl⟩
  have hX1 : Blk W1 g (splice X i news) := by
    rw [hW1, Nat.zero_add, Nat.mul_one]
    exact Blk.setCells news i X w.drew hX (by omega)
  have hG1 : w.grownBy W1 (some g) := by
    rw [hW1]
    have := setCells_turn g news (0 + i * 1) w.drew
    exact ⟨this.os, this.tape, this.output, this.size, this.block⟩
  have hL1 : (splice X i news).length = c := by rw [length_splice _ _ _ (by omega), hXl]
  have hcl : ∀ ty cc, (Builtin.clear_ #[109] ty #[.slice (some ⟨g, i + (n - j), none⟩) (n - (i + (n - j))) cc]).run Tryd.prog W1 = .ok (.tuple #[]) (W1.setCells g (i + (n - j)) (List.replicate (n - (i + (n - j))) (.slice none 0 0))) := fun ty cc =>
    run_clear_rows W1 ty g (i + (n - j)) (n - (i + (n - j))) cc _ hX1 (by omega) (by rw [hL1]; omega)
  obtain ⟨W2, hW2⟩ : ∃ W2, W2 = W1.setCells g (i + (n - j)) (List.replicate (n - (i + (n - j))) (.slice none 0 0)) := ⟨_, rfl⟩
  rw [← hW2] at hcl
  have hX2 : Blk W2 g (splice (splice X i news) (i + (n - j)) (List.replicate (n - (i + (n - j))) (.slice none 0 0))) := by
    rw [hW2]
    exact Blk.setCells _ _ _ W1 hX1 (by rw [hL1, List.length_replicate]; omega)
  have hG2 : w.grownBy W2 (some g) := by
    have := setCells_turn g (List.replicate (n - (i + (n - j))) (.slice none 0 0)) (i + (n - j)) W1
    rw [← hW2] at this
    exact ⟨this.os.trans hG1.os, this.tape.trans hG1.tape, this.output.trans hG1.output, Nat.le_trans hG1.size this.size, fun k hk hne => (this.block k (Nat.lt_of_lt_of_le hk hG1.size) hne).trans (hG1.block k hk hne)⟩
  have hll : (L.take i ++ L.drop j).length = i + (n - j) := by simp; omega
  have HW2 : Hid (Rw W2 base (.slice (some ⟨g, 0, none⟩) (i + (n - j)) c) (L.take i ++ L.drop j) ∧ w.grownBy W2 (some g)) := Lib.hid (by
    refine ⟨?_, hG2⟩
    have := Rw.ofBlk (L := L.take i ++ L.drop j) (c := c) (base := base) hX2 hbg (by rw [hll]; omega) hcm (by rw [length_splice _ _ _ (by rw [hL1, List.length_replicate]; omega), hL1]) (by
      rw [hll, take_splice _ _ _ (by rw [hL1]; omega), show i + (n - j) = i + news.length by rw [hlen]; omega, take_splice_end _ _ _ (by omega), ← hnews, ← hXt, List.take_take, Nat.min_eq_left (by omega)])
    rw [hll] at this
    exact this)
  have hW : Hid (W1 = w.drew.setCells g (0 + i * 1) news) := Lib.hid hW1
  have hne2 : ¬ c = i + (n - j) := by omega
  clear h hX hXl hXt hget hlen hnews hW1 hX1 hG1 hL1 hX2 hG2 hll hW2 hnl hn hz0 hz2 hcm hil
  go_enter Tryd.func93, Tryd.ntmps93
  go_wp2_with fail
  go_region_law (refine step_append_room rfl (.tmp 22) (.tmp 25) 109 rfl 35 i0 1 Tryd.underlying109 hi hz1 g 0 i c (by simp [Act.eval, Act.put]) ad (n - j) (c - j) news (by simp [Act.eval, Act.put]) s1.out hsrc.out s2.out (by omega) s3.out ?_; rw [← hW.out])
  go_wp2_with fail
  go_ret
  exact ⟨rfl, HW2.out⟩
/-- One is gone. -/
def ou {α : Type} (i : Nat) (L : List α) : List α := L.take i ++ L.drop (i + 1)
theorem ou_len {α : Type} {i : Nat} {L : List α} (h : i < L.length) : (ou i L).length + 1 = L.length := by unfold ou; simp; omega
theorem delete_one (base : Nat) (A : Option Addr) (n c : Nat) (L : List Value) (i : Nat) (w : World) (h : Rw w base (.slice A n c) L) (hi : i < L.length) (hl : L.length ≤ 100000) (h1c : ∀ u ∈ L, u.oneCell' = true) :
    Calls Tryd.prog 93 #[.slice A n c, .int .i64 (i : Int), .int .i64 ((i : Int) + 1)] w fun e w' => e = .returned (.slice A (ou i L).length c) ∧ Rw w' base (.slice A (ou i L).length c) (ou i L) ∧ w.grownBy w' (Value.slice A n c).ownBlock := by
  have hn : n = L.length := h.gt.1
  obtain ⟨g, rfl⟩ := h.first (by intro e; subst e; simp at hi)
  have e : (ou i L).length = i + (n - (i + 1)) := by unfold ou; simp; omega
  rw [e]
  exact delete_any base g c L i (i + 1) n w h (by omega) (by omega) hn.symm hl h1c
end Nw
end Go.Proofs.YtobpinelhjpfgaaDoor
