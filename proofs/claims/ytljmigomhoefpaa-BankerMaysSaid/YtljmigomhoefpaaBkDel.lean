/-
  Layer 8: one number is deleted out of a list of one's own (slices.Delete).
-/
import Derived.Test.YtljmigomhoefpaaBkA
import Derived.Deep.RegionLaw
import Derived.Deep.Upon
import Derived.Laws.CopyOwn
set_option linter.unusedVariables false
set_option maxRecDepth 100000
namespace Go.Proofs.Ytljmigomhoefpaa.Bk
open Go.RowKit Go.Maps

/-- A block of numbers' cells. -/
def Blk (w : World) (g : Nat) (X : List Value) : Prop := w.heap[g]? = some (.cells X.toArray 3 (0, 0))
theorem take_splice {α : Type} (X cs : List α) (o : Nat) (h : o ≤ X.length) : (splice X o cs).take o = X.take o := by
  unfold splice
  rw [List.take_append_of_le_length (by simp; omega), List.take_take, Nat.min_self]
theorem take_splice_end {α : Type} (X cs : List α) (o : Nat) (h : o ≤ X.length) : (splice X o cs).take (o + cs.length) = X.take o ++ cs := by
  unfold splice
  rw [← List.append_assoc, List.take_append_of_le_length (by simp; omega)]
  exact List.take_of_length_le (by simp; omega)
theorem splice_cons {α : Type} (X r : List α) (o : Nat) (v : α) (h : o < X.length) : splice (X.set o v) (o + 1) r = splice X o (v :: r) := by
  unfold splice
  have e1 : (X.set o v).take (o + 1) = X.take o ++ [v] := by
    rw [List.take_set, List.take_succ_eq_append_getElem h, List.set_append_right _ _ (by simp; omega)]
    simp [Nat.min_eq_left (Nat.le_of_lt h)]
  have e2 : (X.set o v).drop (o + 1 + r.length) = X.drop (o + (v :: r).length) := by
    rw [List.drop_set, if_pos (by omega)]
    congr 1
    simp; omega
  rw [e1, e2, List.append_assoc]
  rfl
theorem splice_nil {α : Type} (X : List α) (o : Nat) : splice X o [] = X := by simp [splice]
theorem Blk.setCells {g : Nat} : ∀ (news : List Value) (o : Nat) (X : List Value) (w : World), Blk w g X → o + news.length ≤ X.length → Blk (w.setCells g o news) g (splice X o news)
  | [], o, X, w, h, _ => by rw [splice_nil]; exact h
  | v :: r, o, X, w, h, hl => by
    simp only [List.length_cons] at hl
    have h1 : Blk (w.setCell ⟨g, o, none⟩ v) g (X.set o v) := by
      unfold Blk
      rw [heap_setCell_same w g o _ _ _ h]
      simp
    rw [← splice_cons X r o v (by omega)]
    exact Blk.setCells r (o + 1) (X.set o v) (w.setCell ⟨g, o, none⟩ v) h1 (by rw [List.length_set]; omega)
theorem setCells_turn (g : Nat) : ∀ (news : List Value) (o : Nat) (w : World), w.grownBy (w.setCells g o news) (some g)
  | [], o, w => ⟨rfl, rfl, rfl, Nat.le_refl _, fun _ _ _ => rfl⟩
  | v :: r, o, w => by
    have h1 := setCells_turn g r (o + 1) (w.setCell ⟨g, o, none⟩ v)
    have hz : (w.setCell ⟨g, o, none⟩ v).heap.size = w.heap.size := by simp [World.setCell]
    exact ⟨h1.os, h1.tape, h1.output, by have := h1.size; rw [hz] at this; exact this, fun k hk hne => (h1.block k (by rw [hz]; exact hk) hne).trans (Below.heap_setCell _ _ _ _ (fun e => hne (by rw [e])))⟩
theorem Blk.cell {w : World} {g : Nat} {X : List Value} (h : Blk w g X) (j : Nat) : w.cell? ⟨g, j, none⟩ = X[j]? ∧ w.frozen? ⟨g, j, none⟩ = false :=
  ⟨by rw [cell_of_row w g j _ _ _ h]; simp, frozen_of_row w g j _ _ h⟩
theorem Iw.blk {w : World} {base g n c : Nat} {L : List Int} (h : Iw w base (.slice (some ⟨g, 0, none⟩) n c) L) : base ≤ g ∧ ∃ X, Blk w g X ∧ n = L.length ∧ n ≤ c ∧ c ≤ maxLen ∧ X.length = c ∧ X.take L.length = ivs L := by
  unfold Iw at h
  rcases h.2 with ⟨q, h0⟩ | ⟨g', cap', cur, q, hg, hh, h1, h2, h3, h4⟩
  · cases q
  · injection q with q1 q2 q3
    injection q1 with q1
    injection q1 with q1
    subst q1 q3
    exact ⟨hg, cur.toList, by unfold Blk; simpa using hh, q2, by omega, h2, by simpa using h3, by simpa using h4⟩
theorem Iw.ofBlk {w : World} {base g c : Nat} {L : List Int} {X : List Value} (h : Blk w g X) (hb : base ≤ g) (hn : L.length ≤ c) (hc : c ≤ maxLen) (hX : X.length = c) (hT : X.take L.length = ivs L) : Iw w base (.slice (some ⟨g, 0, none⟩) L.length c) L :=
  ⟨by simp [ivs], .inr ⟨g, c, X.toArray, rfl, hb, h, hn, hc, by simpa using hX, by simpa using hT⟩⟩
theorem zero_ints (n : Nat) : (Builtin.zeroCells #[.int .i64 0] n).toList = List.replicate n (.int .i64 0) := by
  simp only [Builtin.zeroCells]
  apply List.ext_getElem
  · simp
  · intro i h1 h2
    simp [Nat.mod_one]
theorem run_clear_ints (w : World) (ty : TypeId) (g o n c : Nat) (X : List Value) (h : Blk w g X) (hn : 0 < n) (hf : o + n ≤ X.length) :
    (Builtin.clear_ #[24] ty #[.slice (some ⟨g, o, none⟩) n c]).run Try.prog w = .ok (.tuple #[]) (w.setCells g o (List.replicate n (.int .i64 0))) := by
  have hv : ∀ w, (zeroValue 3).run Try.prog w = .ok (.int .i64 0) w := fun w => by kernel_rfl
  have hzc := zero_ints n
  have hcells : (Value.int .i64 0).cells = #[.int .i64 0] := by kernel_rfl
  have hst := run_storeCells_cells (P := Try.prog) g o (List.replicate n (Value.int .i64 0)) 0 w (fun j hj => by
      rw [List.length_replicate] at hj
      rw [Nat.add_zero, (h.cell (o + j)).1, List.getElem?_eq_getElem (by omega)]; rfl) (fun j hj => (h.cell (o + 0 + j)).2) (by intro v hv'; rw [List.eq_of_mem_replicate hv']; rfl)
  simp only [Nat.add_zero] at hst
  obtain ⟨m, rfl⟩ : ∃ m, n = m + 1 := ⟨n - 1, by omega⟩
  simp [Builtin.clear_, run_underlying Try.underlying24, hv, hcells, hzc, hst]
theorem ivs_drop (L : List Int) (i : Nat) : ivs (L.drop i) = (ivs L).drop i := by simp [ivs]
theorem ivs_take (L : List Int) (i : Nat) : ivs (L.take i) = (ivs L).take i := by simp [ivs]
theorem ivs_app (L M : List Int) : ivs (L ++ M) = ivs L ++ ivs M := by simp [ivs]
set_option maxHeartbeats 2000000 in
/-- slices.Delete of some numbers of one's own. -/
theorem delete_any (base g c : Nat) (L : List Int) (i j n : Nat) (w : World) (h : Iw w base (.slice (some ⟨g, 0, none⟩) n c) L) (hij : i < j) (hjn : j ≤ n) (hn : L.length = n) (hl : L.length ≤ 100000) :
    Calls Try.prog 33 #[.slice (some ⟨g, 0, none⟩) n c, .int .i64 (i : Int), .int .i64 (j : Int)] w fun e w' => e = .returned (.slice (some ⟨g, 0, none⟩) (i + (n - j)) c) ∧ Iw w' base (.slice (some ⟨g, 0, none⟩) (i + (n - j)) c) (L.take i ++ L.drop j) ∧ w.grownBy w' (some g) := by
  obtain ⟨i0, hi, hz0, hz1, hz2⟩ := info_parts Try.infoInt8
  obtain ⟨hbg, X, hX, hnl, hlc, hcm, hXl, hXt⟩ := h.blk
  have hcm' := hcm
  unfold maxLen at hcm'
  have hijI : (i : Int) ≤ (j : Int) := by omega
  have dx : ((i : Int) == (j : Int)) = false := by rw [beq_eq_false_iff_ne]; omega
  have hjI : (j : Int) ≤ (n : Int) := by omega
  have hnc : (n : Int) ≤ (c : Int) := by omega
  have hic : i ≤ c := by omega
  have hjc : j ≤ c := by omega
  have hicI : (i : Int) ≤ (c : Int) := by omega
  have hjcI : (j : Int) ≤ (c : Int) := by omega
  obtain ⟨news, hnews⟩ : ∃ news, news = (ivs L).drop j := ⟨_, rfl⟩
  have hil : (ivs L).length = n := by simp [ivs, hn]
  have hlen : news.length = (n - j) * 1 := by rw [hnews, List.length_drop, hil]; omega
  have hget : ∀ t u, news[t]? = some u → X[j + t]? = some u := fun t u hu => by
    have ht : t < (n - j) * 1 := by have := (List.getElem?_eq_some_iff.1 hu).1; omega
    rw [hnews, List.getElem?_drop, ← hXt, List.getElem?_take, if_pos (by omega)] at hu
    exact hu
  obtain ⟨ad, had, hsrc⟩ : ∃ ad : Addr, (if c = j then (some ⟨g, 0, none⟩ : Option Addr) else some ⟨g, j, none⟩) = some ad ∧ Hid (∀ t u, news[t]? = some u → w.drew.cell? (ad.add t) = some u) := by
    by_cases e : c = j
    · refine ⟨⟨g, 0, none⟩, by simp [e], fun t u hu => ?_⟩
      have ht : t < (n - j) * 1 := by have := (List.getElem?_eq_some_iff.1 hu).1; omega
      omega
    · refine ⟨⟨g, j, none⟩, by simp [e], fun t u hu => ?_⟩
      rw [add_at]
      exact ((hX.cell _).1).trans (hget t u hu)
  have s1 := Lib.hid hlen
  have s2 : Hid (∀ u ∈ news, u.oneCell' = true) := Lib.hid (fun u hu => ivs_one L u (by rw [hnews] at hu; exact List.mem_of_mem_drop hu))
  have s3 : Hid (∀ t, t < news.length → (w.drew.cell? ⟨g, 0 + i * 1 + t, none⟩).isSome = true ∧ w.drew.frozen? ⟨g, 0 + i * 1 + t, none⟩ = false) := Lib.hid (fun t ht => by
    rw [hlen] at ht
    refine ⟨?_, (hX.cell _).2⟩
    show (w.cell? _).isSome = true
    rw [(hX.cell _).1, List.getElem?_eq_getElem (by omega)]; rfl)
  obtain ⟨W1, hW1⟩ : ∃ W1, W1 = w.drew.setCells g (0 + i * 1) news := ⟨_, rfl⟩
  have hX1 : Blk W1 g (splice X i news) := by
    rw [hW1, Nat.zero_add, Nat.mul_one]
    exact Blk.setCells news i X w.drew hX (by omega)
  have hG1 : w.grownBy W1 (some g) := by
    rw [hW1]
    have := setCells_turn g news (0 + i * 1) w.drew
    exact ⟨this.os, this.tape, this.output, this.size, this.block⟩
  have hL1 : (splice X i news).length = c := by rw [length_splice _ _ _ (by omega), hXl]
  have hcl : ∀ ty cc, (Builtin.clear_ #[24] ty #[.slice (some ⟨g, i + (n - j), none⟩) (n - (i + (n - j))) cc]).run Try.prog W1 = .ok (.tuple #[]) (W1.setCells g (i + (n - j)) (List.replicate (n - (i + (n - j))) (.int .i64 0))) := fun ty cc =>
    run_clear_ints W1 ty g (i + (n - j)) (n - (i + (n - j))) cc _ hX1 (by omega) (by rw [hL1]; omega)
  obtain ⟨W2, hW2⟩ : ∃ W2, W2 = W1.setCells g (i + (n - j)) (List.replicate (n - (i + (n - j))) (.int .i64 0)) := ⟨_, rfl⟩
  rw [← hW2] at hcl
  have hX2 : Blk W2 g (splice (splice X i news) (i + (n - j)) (List.replicate (n - (i + (n - j))) (.int .i64 0))) := by
    rw [hW2]
    exact Blk.setCells _ _ _ W1 hX1 (by rw [hL1, List.length_replicate]; omega)
  have hG2 : w.grownBy W2 (some g) := by
    have := setCells_turn g (List.replicate (n - (i + (n - j))) (.int .i64 0)) (i + (n - j)) W1
    rw [← hW2] at this
    exact ⟨this.os.trans hG1.os, this.tape.trans hG1.tape, this.output.trans hG1.output, Nat.le_trans hG1.size this.size, fun k hk hne => (this.block k (Nat.lt_of_lt_of_le hk hG1.size) hne).trans (hG1.block k hk hne)⟩
  have hll : (L.take i ++ L.drop j).length = i + (n - j) := by simp; omega
  have HW2 : Hid (Iw W2 base (.slice (some ⟨g, 0, none⟩) (i + (n - j)) c) (L.take i ++ L.drop j) ∧ w.grownBy W2 (some g)) := Lib.hid (by
    refine ⟨?_, hG2⟩
    have := Iw.ofBlk (L := L.take i ++ L.drop j) (c := c) (base := base) hX2 hbg (by rw [hll]; omega) hcm (by rw [length_splice _ _ _ (by rw [hL1, List.length_replicate]; omega), hL1]) (by
      rw [hll, take_splice _ _ _ (by rw [hL1]; omega), show i + (n - j) = i + news.length by rw [hlen]; omega, take_splice_end _ _ _ (by omega), ivs_app, ivs_take, ivs_drop, ← hnews, ← hXt, List.take_take, Nat.min_eq_left (by omega)])
    rw [hll] at this
    exact this)
  have hW : Hid (W1 = w.drew.setCells g (0 + i * 1) news) := Lib.hid hW1
  have hne2 : ¬ c = i + (n - j) := by omega
  clear h hX hXl hXt hget hlen hnews hW1 hX1 hG1 hL1 hX2 hG2 hll hW2 hnl hn hz0 hz2 hcm hil
  go_enter Try.func33, Try.ntmps33
  go_wp2_with fail
  go_region_law (refine step_append_room rfl (.tmp 22) (.tmp 25) 24 rfl 3 i0 1 Try.underlying24 hi hz1 g 0 i c (by simp [Act.eval, Act.put]) ad (n - j) (c - j) news (by simp [Act.eval, Act.put]) s1.out hsrc.out s2.out (by omega) s3.out ?_; rw [← hW.out])
  go_wp2_with fail
  go_ret
  exact ⟨rfl, HW2.out⟩
end Go.Proofs.Ytljmigomhoefpaa.Bk
