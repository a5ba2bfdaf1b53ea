/-
  Layer 6: windows within one block: written, cleared, deleted.
-/
import Derived.Test.YtinkpeliinofoaaDoorWnF
import Derived.Deep.RegionLaw
import Derived.Deep.Upon
import Derived.Laws.CopyOwn
set_option linter.unusedVariables false
set_option maxRecDepth 100000
namespace Go.Proofs.YtinkpeliinofoaaDoor.Wn
open Go.RowKit Go.Maps

/-- A block of windows' cells. -/
def Bk (w : World) (g : Nat) (X : List Value) : Prop := w.heap[g]? = some (.cells X.toArray 36 (0, 0))
theorem take_splice {α : Type} (X cs : List α) (o : Nat) (h : o ≤ X.length) : (splice X o cs).take o = X.take o := by
  unfold splice
  rw [List.take_append_of_le_length (by simp; omega), List.take_take, Nat.min_self]
theorem take_splice_end {α : Type} (X cs : List α) (o : Nat) (h : o ≤ X.length) : (splice X o cs).take (o + cs.length) = X.take o ++ cs := by
  unfold splice
  rw [← List.append_assoc, List.take_append_of_le_length (by simp; omega)]
  exact List.take_of_length_le (by simp; omega)
theorem splice_cons {α : Type} (X r : List α) (o : Nat) (v : α) (h : o < X.length) : splice (X.set o v) (o + 1) r = splice X o (v :: r) := by
  unfold splice
  have e1 : (X.set o v).take (o + 1) = X.take o ++ [v] := by
    rw [List.take_set, List.take_succ_eq_append_getElem h, List.set_append_right _ _ (by simp; omega)]
    simp [Nat.min_eq_left (Nat.le_of_lt h)]
  have e2 : (X.set o v).drop (o + 1 + r.length) = X.drop (o + (v :: r).length) := by
    rw [List.drop_set, if_pos (by omega)]
    congr 1
    simp; omega
  rw [e1, e2, List.append_assoc]
  rfl
theorem splice_nil {α : Type} (X : List α) (o : Nat) : splice X o [] = X := by simp [splice]
theorem Bk.setCells {g : Nat} : ∀ (news : List Value) (o : Nat) (X : List Value) (w : World), Bk w g X → o + news.length ≤ X.length → Bk (w.setCells g o news) g (splice X o news)
  | [], o, X, w, h, _ => by rw [splice_nil]; exact h
  | v :: r, o, X, w, h, hl => by
    simp only [List.length_cons] at hl
    have h1 : Bk (w.setCell ⟨g, o, none⟩ v) g (X.set o v) := by
      unfold Bk
      rw [heap_setCell_same w g o _ _ _ h]
      simp
    rw [← splice_cons X r o v (by omega)]
    exact Bk.setCells r (o + 1) (X.set o v) (w.setCell ⟨g, o, none⟩ v) h1 (by rw [List.length_set]; omega)
theorem setCells_turn (g : Nat) : ∀ (news : List Value) (o : Nat) (w : World), w.grownBy (w.setCells g o news) (some g)
  | [], o, w => ⟨rfl, rfl, rfl, Nat.le_refl _, fun _ _ _ => rfl⟩
  | v :: r, o, w => by
    have h1 := setCells_turn g r (o + 1) (w.setCell ⟨g, o, none⟩ v)
    have hz : (w.setCell ⟨g, o, none⟩ v).heap.size = w.heap.size := by simp [World.setCell]
    exact ⟨h1.os, h1.tape, h1.output, by have := h1.size; rw [hz] at this; exact this, fun k hk hne => (h1.block k (by rw [hz]; exact hk) hne).trans (Below.heap_setCell _ _ _ _ (fun e => hne (by rw [e])))⟩
theorem Bk.cell {w : World} {g : Nat} {X : List Value} (h : Bk w g X) (j : Nat) : w.cell? ⟨g, j, none⟩ = X[j]? ∧ w.frozen? ⟨g, j, none⟩ = false :=
  ⟨by rw [cell_of_row w g j _ _ _ h]; simp, frozen_of_row w g j _ _ h⟩
theorem Wow.bk {w : World} {base g n c : Nat} {L : List (Int × Int)} (h : Wow w base (.slice (Option.some ⟨g, 0, Option.none⟩) n c) L) : base ≤ g ∧ ∃ X, Bk w g X ∧ n = L.length ∧ n ≤ c ∧ c ≤ maxLen ∧ X.length = c * 2 ∧ X.take (L.length * 2) = wcl L := by
  unfold Wow at h
  rcases h.2 with ⟨q, h0⟩ | ⟨g', cap', cur, q, hg, hh, h1, h2, h3, h4⟩
  · cases q
  · injection q with q1 q2 q3
    injection q1 with q1
    injection q1 with q1
    subst q1 q3
    exact ⟨hg, cur.toList, by unfold Bk; simpa using hh, q2, by omega, h2, by simpa using h3, h4⟩
theorem Wow.ofBk {w : World} {base g c : Nat} {L : List (Int × Int)} {X : List Value} (h : Bk w g X) (hb : base ≤ g) (hn : L.length ≤ c) (hc : c ≤ maxLen) (hX : X.length = c * 2) (hT : X.take (L.length * 2) = wcl L) : Wow w base (.slice (Option.some ⟨g, 0, Option.none⟩) L.length c) L :=
  ⟨wcl_length L, .inr ⟨g, c, X.toArray, rfl, hb, h, hn, hc, by simpa using hX, by simpa using hT⟩⟩
theorem zero_wins (n : Nat) : (Builtin.zeroCells #[.int .i64 0, .int .i64 0] n).toList = List.replicate (n * 2) (.int .i64 0) := by
  simp only [Builtin.zeroCells]
  apply List.ext_getElem
  · simp
  · intro i h1 h2
    have : i % 2 = 0 ∨ i % 2 = 1 := by omega
    rcases this with q | q <;> simp [q]
theorem run_clear_wins (w : World) (ty : TypeId) (g o n c : Nat) (X : List Value) (h : Bk w g X) (hn : 0 < n) (hf : o + n * 2 ≤ X.length) :
    (Builtin.clear_ #[64] ty #[.slice (some ⟨g, o, none⟩) n c]).run Tryd.prog w = .ok (.tuple #[]) (w.setCells g o (List.replicate (n * 2) (.int .i64 0))) := by
  have hv : ∀ w, (zeroValue 36).run Tryd.prog w = .ok (.agg #[.int .i64 0, .int .i64 0]) w := fun w => by kernel_rfl
  have hzc := zero_wins n
  have hcells : (Value.agg #[.int .i64 0, .int .i64 0]).cells = #[.int .i64 0, .int .i64 0] := by kernel_rfl
  have hst := run_storeCells_cells (P := Tryd.prog) g o (List.replicate (n * 2) (Value.int .i64 0)) 0 w (fun j hj => by
      rw [List.length_replicate] at hj
      rw [Nat.add_zero, (h.cell (o + j)).1, List.getElem?_eq_getElem (by omega)]; rfl) (fun j hj => (h.cell (o + 0 + j)).2) (by intro v hv'; rw [List.eq_of_mem_replicate hv']; rfl)
  simp only [Nat.add_zero] at hst
  obtain ⟨m, rfl⟩ : ∃ m, n = m + 1 := ⟨n - 1, by omega⟩
  simp [Builtin.clear_, run_underlying Tryd.underlying64, hv, hcells, hzc, hst]
theorem delete_same (A : Option Addr) (n c i : Nat) (w : World) (hn : n ≤ c) (hc : c ≤ 9223372036854775807) (hi : i ≤ n) :
    Calls Tryd.prog 33 #[.slice A n c, .int .i64 (i : Int), .int .i64 (i : Int)] w fun e w' => e = .returned (.slice A n c) ∧ w = w' := by
  have hic : (i : Int) ≤ (n : Int) := by omega
  by_cases hni : n = i
  · subst hni
    go_enter Tryd.func33, Tryd.ntmps33
    go_wp2_with fail
    all_goals
      go_ret
      exact ⟨rfl, rfl⟩
  · go_enter Tryd.func33, Tryd.ntmps33
    go_wp2_with fail
    all_goals
      go_ret
      exact ⟨rfl, rfl⟩
set_option maxHeartbeats 2000000 in
theorem delete_some (base g c : Nat) (L : List (Int × Int)) (i j n : Nat) (w : World) (h : Wow w base (.slice (Option.some ⟨g, 0, Option.none⟩) n c) L) (hij : i < j) (hjn : j ≤ n) (hn : L.length = n) (hl : L.length ≤ 100000) :
    Calls Tryd.prog 33 #[.slice (Option.some ⟨g, 0, Option.none⟩) n c, .int .i64 (i : Int), .int .i64 (j : Int)] w fun e w' => e = .returned (.slice (Option.some ⟨g, 0, Option.none⟩) (i + (n - j)) c) ∧ Wow w' base (.slice (Option.some ⟨g, 0, Option.none⟩) (i + (n - j)) c) (L.take i ++ L.drop j) ∧ w.grownBy w' (Option.some g) := by
  obtain ⟨i0, hi, hz0, hz1, hz2⟩ := info_parts Tryd.infoWin
  obtain ⟨hbg, X, hX, hnl, hlc, hcm, hXl, hXt⟩ := h.bk
  have hcm' := hcm
  unfold maxLen at hcm'
  have hijI : (i : Int) ≤ (j : Int) := by omega
  have dx : ((i : Int) == (j : Int)) = false := by rw [beq_eq_false_iff_ne]; omega
  have hjI : (j : Int) ≤ (n : Int) := by omega
  have hnc : (n : Int) ≤ (c : Int) := by omega
  have hic : i ≤ c := by omega
  have hjc : j ≤ c := by omega
  have hicI : (i : Int) ≤ (c : Int) := by omega
  have hjcI : (j : Int) ≤ (c : Int) := by omega
  obtain ⟨news, hnews⟩ : ∃ news, news = (wcl L).drop (j * 2) := ⟨_, rfl⟩
  have hlen : news.length = (n - j) * 2 := by rw [hnews, List.length_drop, wcl_length, hn]; omega
  have hget : ∀ t u, news[t]? = Option.some u → X[j * 2 + t]? = Option.some u := fun t u hu => by
    have ht : t < (n - j) * 2 := by have := (List.getElem?_eq_some_iff.1 hu).1; omega
    rw [hnews, List.getElem?_drop, ← hXt, List.getElem?_take, if_pos (by omega)] at hu
    exact hu
  obtain ⟨ad, had, hsrc⟩ : ∃ ad : Addr, (if c = j then (Option.some ⟨g, 0, Option.none⟩ : Option Addr) else Option.some ⟨g, j * 2, Option.none⟩) = Option.some ad ∧ Hid (∀ t u, news[t]? = Option.some u → w.drew.cell? (ad.add t) = Option.some u) := by
    by_cases e : c = j
    · refine ⟨⟨g, 0, Option.none⟩, by simp [e], fun t u hu => ?_⟩
      have ht : t < (n - j) * 2 := by have := (List.getElem?_eq_some_iff.1 hu).1; omega
      omega
    · refine ⟨⟨g, j * 2, Option.none⟩, by simp [e], fun t u hu => ?_⟩
      rw [add_at]
      exact ((hX.cell _).1).trans (hget t u hu)
  have s1 := Lib.hid hlen
  have s2 : Hid (∀ u ∈ news, u.oneCell' = true) := Lib.hid (fun u hu => wcl_one L u (by rw [hnews] at hu; exact List.mem_of_mem_drop hu))
  have s3 : Hid (∀ t, t < news.length → (w.drew.cell? ⟨g, 0 + i * 2 + t, Option.none⟩).isSome = true ∧ w.drew.frozen? ⟨g, 0 + i * 2 + t, Option.none⟩ = false) := Lib.hid (fun t ht => by
    rw [hlen] at ht
    refine ⟨?_, (hX.cell _).2⟩
    show (w.cell? _).isSome = true
    rw [(hX.cell _).1, List.getElem?_eq_getElem (by omega)]; rfl)
  obtain ⟨W1, hW1⟩ : ∃ W1, W1 = w.drew.setCells g (0 + i * 2) news := ⟨_, rfl⟩
  have hX1 : Bk W1 g (splice X (i * 2) news) := by
    rw [hW1, Nat.zero_add]
    exact Bk.setCells news (i * 2) X w.drew hX (by omega)
  have hG1 : w.grownBy W1 (Option.some g) := by
    rw [hW1]
    have := setCells_turn g news (0 + i * 2) w.drew
    exact ⟨this.os, this.tape, this.output, this.size, this.block⟩
  have hL1 : (splice X (i * 2) news).length = c * 2 := by rw [length_splice _ _ _ (by omega), hXl]
  have hcl : ∀ ty cc, (Builtin.clear_ #[64] ty #[.slice (Option.some ⟨g, (i + (n - j)) * 2, Option.none⟩) (n - (i + (n - j))) cc]).run Tryd.prog W1 = .ok (.tuple #[]) (W1.setCells g ((i + (n - j)) * 2) (List.replicate ((n - (i + (n - j))) * 2) (.int .i64 0))) := fun ty cc =>
    run_clear_wins W1 ty g ((i + (n - j)) * 2) (n - (i + (n - j))) cc _ hX1 (by omega) (by rw [hL1]; omega)
  obtain ⟨W2, hW2⟩ : ∃ W2, W2 = W1.setCells g ((i + (n - j)) * 2) (List.replicate ((n - (i + (n - j))) * 2) (.int .i64 0)) := ⟨_, rfl⟩
  rw [← hW2] at hcl
  have hX2 : Bk W2 g (splice (splice X (i * 2) news) ((i + (n - j)) * 2) (List.replicate ((n - (i + (n - j))) * 2) (.int .i64 0))) := by
    rw [hW2]
    exact Bk.setCells _ _ _ W1 hX1 (by rw [hL1, List.length_replicate]; omega)
  have hG2 : w.grownBy W2 (Option.some g) := by
    have := setCells_turn g (List.replicate ((n - (i + (n - j))) * 2) (.int .i64 0)) ((i + (n - j)) * 2) W1
    rw [← hW2] at this
    exact ⟨this.os.trans hG1.os, this.tape.trans hG1.tape, this.output.trans hG1.output, Nat.le_trans hG1.size this.size, fun k hk hne => (this.block k (Nat.lt_of_lt_of_le hk hG1.size) hne).trans (hG1.block k hk hne)⟩
  have hll : (L.take i ++ L.drop j).length = i + (n - j) := by simp; omega
  have HW2 : Hid (Wow W2 base (.slice (Option.some ⟨g, 0, Option.none⟩) (i + (n - j)) c) (L.take i ++ L.drop j) ∧ w.grownBy W2 (Option.some g)) := Lib.hid (by
    refine ⟨?_, hG2⟩
    have := Wow.ofBk (L := L.take i ++ L.drop j) (c := c) (base := base) hX2 hbg (by rw [hll]; omega) hcm (by rw [length_splice _ _ _ (by rw [hL1, List.length_replicate]; omega), hL1]) (by
      rw [hll, take_splice _ _ _ (by rw [hL1]; omega), show (i + (n - j)) * 2 = i * 2 + news.length by rw [hlen]; omega, take_splice_end _ _ _ (by omega), wcl_app, wcl_take, wcl_drop, ← hnews, ← hXt, List.take_take, Nat.min_eq_left (by omega)])
    rw [hll] at this
    exact this)
  have hW : Hid (W1 = w.drew.setCells g (0 + i * 2) news) := Lib.hid hW1
  have hne2 : ¬ c = i + (n - j) := by omega
  clear h hX hXl hXt hget hlen hnews hW1 hX1 hG1 hL1 hX2 hG2 hll hW2 hnl hn hz0 hz2 hcm
  go_enter Tryd.func33, Tryd.ntmps33
  go_wp2_with fail
  go_region_law (refine step_append_room rfl (.tmp 22) (.tmp 25) 64 rfl 36 i0 2 Tryd.underlying64 hi hz1 g 0 i c (by simp [Act.eval, Act.put]) ad (n - j) (c - j) news (by simp [Act.eval, Act.put]) s1.out hsrc.out s2.out (by omega) s3.out ?_; rw [← hW.out])
  go_wp2_with fail
  go_ret
  exact ⟨rfl, HW2.out⟩
/-- slices.Delete of windows of one's own. -/
theorem delete_any (base : Nat) (A : Option Addr) (c : Nat) (L : List (Int × Int)) (i j : Nat) (w : World) (h : Wow w base (.slice A L.length c) L) (hij : i ≤ j) (hj : j ≤ L.length) (hl : L.length ≤ 100000) :
    Calls Tryd.prog 33 #[.slice A L.length c, .int .i64 (i : Int), .int .i64 (j : Int)] w fun e w' => e = .returned (.slice A (i + (L.length - j)) c) ∧ Wow w' base (.slice A (i + (L.length - j)) c) (L.take i ++ L.drop j) ∧ w.grownBy w' (Value.slice A L.length c).ownBlock := by
  have hs := h.wt.size
  by_cases hx : i = j
  · subst hx
    refine (delete_same A L.length c i w hs.1 hs.2 hj).mono ?_
    rintro e w' ⟨rfl, rfl⟩
    rw [show i + (L.length - i) = L.length by omega, List.take_append_drop]
    exact ⟨rfl, h, rfl, rfl, rfl, Nat.le_refl _, fun _ _ _ => rfl⟩
  · have hLne : L ≠ [] := fun e => by subst e; simp at hj; omega
    obtain ⟨g, rfl, _⟩ := h.some hLne
    exact delete_some base g c L i j L.length w h (by omega) hj rfl hl
/-- copy of windows into a block of one's own, from wherever. -/
theorem run_copy_wins (w : World) (ty : TypeId) (g o dLen dCap : Nat) (a : Addr) (sLen sCap : Nat) (X cs : List Value) (hg : Bk w g X) (hn : cs.length = Nat.min sLen dLen * 2)
    (hsrc : ∀ j v, cs[j]? = Option.some v → w.cell? (a.add j) = Option.some v) (hfit : o + cs.length ≤ X.length) (h1 : ∀ v ∈ cs, v.oneCell' = true) :
    (Builtin.copy_ #[64, 64] ty #[.slice (Option.some ⟨g, o, Option.none⟩) dLen dCap, .slice (Option.some a) sLen sCap]).run Tryd.prog w = .ok (goInt (Nat.min sLen dLen)) (w.setCells g o cs) := by
  obtain ⟨i0, hi, hz0, hz1, hz2⟩ := info_parts Tryd.infoWin
  have hl := run_loadCells_list (P := Tryd.prog) w a cs hsrc
  have hst := run_storeCells_cells (P := Tryd.prog) g o cs 0 w (fun j hj => by
      rw [Nat.add_zero, (hg.cell (o + j)).1, List.getElem?_eq_getElem (by omega)]; rfl) (fun j hj => (hg.cell (o + 0 + j)).2) h1
  simp only [Nat.add_zero] at hst
  simp [Builtin.copy_, run_underlying Tryd.underlying64, Builtin.lenOf, Builtin.firstCells, sizeOf, typeInfo, hi, hz1, ← hn, hl, hst]
end Go.Proofs.YtinkpeliinofoaaDoor.Wn
