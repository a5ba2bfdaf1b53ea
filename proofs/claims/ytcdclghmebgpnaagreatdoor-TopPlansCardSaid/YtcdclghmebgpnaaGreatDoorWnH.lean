/-
  Layer 6: a window is inserted ahead of others.
-/
import Derived.Test.YtcdclghmebgpnaaGreatDoorWnG
import Derived.Lib.Overlaps
import Derived.Lib.AppendZerosOnto
set_option linter.unusedVariables false
set_option maxRecDepth 100000
namespace Go.Proofs.YtcdclghmebgpnaaGreatDoor.Wn
open Go.RowKit Go.Maps

theorem splice_mid {α : Type} (X news : List α) (o : Nat) (p q : α) (h : o + 2 + news.length ≤ X.length) : (splice (splice X (o + 2) news) o [p, q]).take (o + 2 + news.length) = X.take o ++ [p, q] ++ news := by
  have h1 : (splice X (o + 2) news).take o = X.take o := by
    have := take_splice X news (o + 2) (by omega)
    have h2 := congrArg (List.take o) this
    rwa [List.take_take, List.take_take, Nat.min_eq_left (by omega)] at h2
  have h2 : (splice X (o + 2) news).drop (o + 2) = news ++ X.drop (o + 2 + news.length) := by
    unfold splice
    exact List.drop_left' (by simp; omega)
  have e : splice (splice X (o + 2) news) o [p, q] = (X.take o ++ [p, q] ++ news) ++ X.drop (o + 2 + news.length) := by
    rw [show splice (splice X (o + 2) news) o [p, q] = (splice X (o + 2) news).take o ++ ([p, q] ++ (splice X (o + 2) news).drop (o + 2)) from rfl, h1, h2]
    simp
  rw [e]
  exact List.take_left' (by simp; omega)
theorem overlaps_apart (w : World) (g nb : Nat) (X Y : List Value) (hX : Bk w g X) (hY : Bk w nb Y) (hne : nb ≠ g) (hl : X.length ≠ 0) (o la ca lb cb : Nat) :
    (callFunc 74 #[.slice (Option.some ⟨nb, 0, Option.none⟩) la ca, .slice (Option.some ⟨g, o, Option.none⟩) lb cb]).run Tryz.prog w = .ok (.value (.bool false)) w := by
  have hz : ∀ w, (Go.sizeOf 52).run Tryz.prog w = .ok 2 w := fun w => by kernel_rfl
  rw [run_callFunc_extern Tryz.func74 (by kernel_rfl) (by kernel_rfl) (by kernel_rfl) (e := Extern.SlicesOverlaps.overlaps #[49, 49] #[4]) (by kernel_rfl),
    Lib.run_overlaps_apart w 49 4 52 Tryz.underlying49 2 hz ⟨nb, 0, Option.none⟩ ⟨g, o, Option.none⟩ la ca lb cb hne 52 52 Y.length X.length (by unfold Bk at hY; simp [World.shape?, hY]) (by unfold Bk at hX; simp [World.shape?, hX]) hl (hY.cell 0).2 (hY.cell _).2]
  rfl
set_option maxHeartbeats 2000000 in
theorem insert_room (base g c n : Nat) (L : List (Int × Int)) (i : Nat) (a b : Int) (w w1 : World) (h : Wow w base (.slice (Option.some ⟨g, 0, Option.none⟩) n c) L) (hw1 : w1 = w.alloc (.cells #[.int .i64 a, .int .i64 b] 52)) (hn : L.length = n) (hi : i < n) (hnc : n + 1 ≤ c) (hl : n ≤ 100000) :
    Calls Tryz.prog 45 #[.slice (Option.some ⟨g, 0, Option.none⟩) n c, .int .i64 (i : Int), .slice (Option.some ⟨w.heap.size, 0, Option.none⟩) 1 1] w1 fun e w' => e = .returned (.slice (Option.some ⟨g, 0, Option.none⟩) (n + 1) c) ∧ Wow w' base (.slice (Option.some ⟨g, 0, Option.none⟩) (n + 1) c) (L.take i ++ [(a, b)] ++ L.drop i) ∧ w1.grownBy w' (Option.some g) := by
  have hs := h.wt.size
  have hs2 := hs.2
  have hiI : (i : Int) < (n : Int) := by omega
  have hicI : (i : Int) ≤ (c : Int) := by omega
  have hncI : (n : Int) + 1 ≤ (c : Int) := by omega
  have hncI2 : ((n + 1 : Nat) : Int) ≤ (c : Int) := by omega
  have dx : ((i : Int) == (n : Int)) = false := by rw [beq_eq_false_iff_ne]; omega
  generalize hnb : w.heap.size = nb at *
  obtain ⟨hbg, X, hX, hnl, hlc, hcm, hXl, hXt⟩ := h.bk
  have hgn : g < nb := by have := (World.ownsRow.lt h g rfl).2; omega
  have dc : decide ((c : Int) < (n : Int) + 1) = false := decide_eq_false (by omega)
  have hX1 : Bk w1 g X := by
    rw [hw1]
    exact (Below.heap_alloc _ _ _ (by rw [hnb]; exact hgn)).trans hX
  have hY1 : Bk w1 nb [.int .i64 a, .int .i64 b] := by
    rw [hw1, ← hnb]
    exact heap_alloc_new w _
  have hov := overlaps_apart w1 g nb X _ hX1 hY1 (by omega) (by rw [hXl]; omega)
  obtain ⟨news, hnews⟩ : ∃ news, news = (wcl L).drop (i * 2) := ⟨_, rfl⟩
  have hlen : news.length = (n - i) * 2 := by rw [hnews, List.length_drop, wcl_length, hn]; omega
  have hget : ∀ t u, news[t]? = Option.some u → X[i * 2 + t]? = Option.some u := fun t u hu => by
    have ht : t < (n - i) * 2 := by have := (List.getElem?_eq_some_iff.1 hu).1; omega
    rw [hnews, List.getElem?_drop, ← hXt, List.getElem?_take, if_pos (by omega)] at hu
    exact hu
  have hone : ∀ u ∈ news, u.oneCell' = true := fun u hu => wcl_one L u (by rw [hnews] at hu; exact List.mem_of_mem_drop hu)
  obtain ⟨W2, hW2⟩ : ∃ W2, W2 = w1.drew.setCells g ((i + 1) * 2) news := ⟨_, rfl⟩
  have hcp1 : ∀ ty k1 k2, (Builtin.copy_ #[49, 49] ty #[.slice (Option.some ⟨g, (i + 1) * 2, Option.none⟩) (n - i) k1, .slice (Option.some ⟨g, i * 2, Option.none⟩) (n + 1 - i) k2]).run Tryz.prog w1.drew = .ok (goInt ((n - i : Nat) : Int)) W2 := fun ty k1 k2 => by
    have hmin : Nat.min (n + 1 - i) (n - i) = n - i := Nat.min_eq_right (by omega)
    rw [run_copy_wins w1.drew ty g ((i + 1) * 2) (n - i) k1 ⟨g, i * 2, Option.none⟩ (n + 1 - i) k2 X news hX1 (by rw [hmin]; exact hlen) (fun t u hu => by rw [add_at]; exact ((hX1.cell _).1).trans (hget t u hu)) (by rw [hlen, hXl]; omega) hone, hmin, hW2]
  have hG2 : w1.grownBy W2 (Option.some g) := by
    rw [hW2]
    have := setCells_turn g news ((i + 1) * 2) w1.drew
    exact ⟨this.os, this.tape, this.output, this.size, this.block⟩
  have hX2 : Bk W2 g (splice X ((i + 1) * 2) news) := by
    rw [hW2]
    exact Bk.setCells news _ X w1.drew hX1 (by rw [hlen, hXl]; omega)
  have hY2 : Bk W2 nb [.int .i64 a, .int .i64 b] := (hG2.block nb (lt_of_heap hY1) (by simp; omega)).trans hY1
  have hL2 : (splice X ((i + 1) * 2) news).length = c * 2 := by rw [length_splice _ _ _ (by rw [hlen, hXl]; omega), hXl]
  obtain ⟨W3, hW3⟩ : ∃ W3, W3 = W2.setCells g (i * 2) [.int .i64 a, .int .i64 b] := ⟨_, rfl⟩
  have hcp2 : ∀ ty k1, (Builtin.copy_ #[49, 49] ty #[.slice (Option.some ⟨g, i * 2, Option.none⟩) (n + 1 - i) k1, .slice (Option.some ⟨nb, 0, Option.none⟩) 1 1]).run Tryz.prog W2 = .ok (goInt 1) W3 := fun ty k1 => by
    have hmin : Nat.min 1 (n + 1 - i) = 1 := Nat.min_eq_left (by omega)
    rw [run_copy_wins W2 ty g (i * 2) (n + 1 - i) k1 ⟨nb, 0, Option.none⟩ 1 1 _ [.int .i64 a, .int .i64 b] hX2 (by rw [hmin]; rfl) (fun t u hu => by rw [add_at, Nat.zero_add, (hY2.cell t).1]; exact hu) (by rw [hL2]; simp; omega) (by simp [Value.oneCell']), hmin, hW3]
    rfl
  have hG3 : w1.grownBy W3 (Option.some g) := by
    have := setCells_turn g [.int .i64 a, .int .i64 b] (i * 2) W2
    rw [← hW3] at this
    exact ⟨this.os.trans hG2.os, this.tape.trans hG2.tape, this.output.trans hG2.output, Nat.le_trans hG2.size this.size, fun k hk hne => (this.block k (Nat.lt_of_lt_of_le hk hG2.size) hne).trans (hG2.block k hk hne)⟩
  have hX3 : Bk W3 g (splice (splice X ((i + 1) * 2) news) (i * 2) [.int .i64 a, .int .i64 b]) := by
    rw [hW3]
    exact Bk.setCells _ _ _ W2 hX2 (by rw [hL2]; simp; omega)
  have hll : (L.take i ++ [(a, b)] ++ L.drop i).length = n + 1 := by simp; omega
  have HW3 : Hid (Wow W3 base (.slice (Option.some ⟨g, 0, Option.none⟩) (n + 1) c) (L.take i ++ [(a, b)] ++ L.drop i) ∧ w1.grownBy W3 (Option.some g)) := Lib.hid (by
    refine ⟨?_, hG3⟩
    have := Wow.ofBk (L := L.take i ++ [(a, b)] ++ L.drop i) (c := c) (base := base) hX3 hbg (by rw [hll]; omega) hcm (by rw [length_splice _ _ _ (by rw [hL2]; simp; omega), hL2]) (by
      have hm := splice_mid X news (i * 2) (.int .i64 a) (.int .i64 b) (by rw [hlen, hXl]; omega)
      rw [show i * 2 + 2 = (i + 1) * 2 by omega, show (i + 1) * 2 + news.length = (n + 1) * 2 by rw [hlen]; omega] at hm
      rw [hll, hm, wcl_app, wcl_app, wcl_take, wcl_drop, ← hnews, ← hXt, List.take_take, Nat.min_eq_left (by omega)]
      rfl)
    rw [hll] at this
    exact this)
  clear h hw1 hs hn hX hX1 hY1 hX2 hY2 hX3 hXt hXl hget hone hlen hnews hG2 hG3 hL2 hll hnl hcm hW2 hW3
  go_enter Tryz.func45, Tryz.ntmps45
  go_wp2_with fail
  go_region
  go_wp2_with fail
  go_ret
  exact ⟨rfl, HW3.out⟩
end Go.Proofs.YtcdclghmebgpnaaGreatDoor.Wn
