/-
  Layer 6: a window is inserted ahead of others where there is no room.
-/
import Derived.Test.YtcdclghmebgpnaaGreatDoorWnH
set_option linter.unusedVariables false
set_option maxRecDepth 100000
namespace Go.Proofs.YtcdclghmebgpnaaGreatDoor.Wn
open Go.RowKit Go.Maps

theorem splice_two {α : Type} (X news : List α) (o : Nat) (p q : α) (h : o + 2 + news.length ≤ X.length) : (splice (splice X o [p, q]) (o + 2) news).take (o + 2 + news.length) = X.take o ++ [p, q] ++ news := by
  have h1 : (splice X o [p, q]).length = X.length := length_splice _ _ _ (by simp; omega)
  rw [take_splice_end _ _ _ (by omega), show o + 2 = o + [p, q].length from rfl, take_splice_end _ _ _ (by omega)]
set_option maxHeartbeats 2000000 in
theorem insert_grow (base g c n : Nat) (L : List (Int × Int)) (i : Nat) (a b : Int) (w w1 : World) (h : Wow w base (.slice (Option.some ⟨g, 0, Option.none⟩) n c) L) (hw1 : w1 = w.alloc (.cells #[.int .i64 a, .int .i64 b] 52)) (hbw : base ≤ w.heap.size) (hn : L.length = n) (hi : i < n) (hnc : ¬ n + 1 ≤ c) (hl : n ≤ 100000) :
    Calls Tryz.prog 45 #[.slice (Option.some ⟨g, 0, Option.none⟩) n c, .int .i64 (i : Int), .slice (Option.some ⟨w.heap.size, 0, Option.none⟩) 1 1] w1 fun e w' => ∃ G, e = .returned (.slice (Option.some ⟨w1.heap.size, 0, Option.none⟩) (n + 1) G) ∧ Wow w' base (.slice (Option.some ⟨w1.heap.size, 0, Option.none⟩) (n + 1) G) (L.take i ++ [(a, b)] ++ L.drop i) ∧ w1.grownBy w' Option.none := by
  obtain ⟨i0, hii, hz0, hz1, hz2⟩ := info_parts Tryz.infoWin
  have hiI : (i : Int) < (n : Int) := by omega
  have hs := h.wt.size
  have hs1 := hs.1
  have hs2 := hs.2
  have hicI : (i : Int) ≤ (c : Int) := by omega
  have dx : ((i : Int) == (n : Int)) = false := by rw [beq_eq_false_iff_ne]; omega
  have dc : decide ((c : Int) < (n : Int) + 1) = true := decide_eq_true (by omega)
  generalize hnb : w.heap.size = nb at *
  obtain ⟨hbg, X, hX, hnl, hlc, hcm, hXl, hXt⟩ := h.bk
  have hgn : g < nb := by have := (World.ownsRow.lt h g rfl).2; omega
  have hz1' : w1.heap.size = nb + 1 := by rw [hw1, alloc_size, hnb]
  have hX1 : Bk w1 g X := by
    rw [hw1]
    exact (Below.heap_alloc _ _ _ (by rw [hnb]; exact hgn)).trans hX
  have hY1 : Bk w1 nb [.int .i64 a, .int .i64 b] := by
    rw [hw1, ← hnb]
    exact heap_alloc_new w _
  have hik : i + (n + 1 - i) = n + 1 := by omega
  have hkk : (n : Int) + 1 - (i : Int) = ((n + 1 - i : Nat) : Int) := by omega
  have hget : ∀ t u, (wcl L)[t]? = Option.some u → X[t]? = Option.some u := fun t u hu => by
    have ht : t < L.length * 2 := by have := (List.getElem?_eq_some_iff.1 hu).1; rwa [wcl_length] at this
    rw [← hXt, List.getElem?_take, if_pos ht] at hu
    exact hu
  have hold : (Builtin.firstCells i0.size i (.slice (Option.some ⟨g, 0, Option.none⟩) i c)).run Tryz.prog w1.drew = .ok ((wcl L).take (i * 2)).toArray w1.drew := by
    rw [hz1]
    exact run_firstCells_some w1.drew 2 i ⟨g, 0, Option.none⟩ i c ((wcl L).take (i * 2)) (by rw [List.length_take, wcl_length]; omega) (fun j v hj => by
      rw [add_at, Nat.zero_add]
      rw [List.getElem?_take] at hj
      split at hj
      · exact ((hX1.cell j).1).trans (hget j v hj)
      · cases hj)
  obtain ⟨G, hG⟩ : ∃ G, G = grownCap w1 (n + 1) c 52 := ⟨_, rfl⟩
  have hGn : n + 1 ≤ G := by rw [hG]; exact grownCap_ge w1 _ _ _
  have hGm : G ≤ maxLen := by rw [hG]; exact grownCap_le_maxLen w1 (n + 1) c 52 (by unfold maxLen; omega)
  obtain ⟨ROW, hROW⟩ : ∃ ROW : Array Value, ROW = ((wcl L).take (i * 2)).toArray ++ Builtin.zeroCells #[.int .i64 0, .int .i64 0] (n + 1 - i) ++ Builtin.zeroCells #[.int .i64 0, .int .i64 0] (G - (n + 1)) := ⟨_, rfl⟩
  obtain ⟨W1, hW1⟩ : ∃ W1, W1 = w1.drew.alloc (.cells ROW 52) := ⟨_, rfl⟩
  have hcells : (Value.agg #[.int .i64 0, .int .i64 0]).cells = #[.int .i64 0, .int .i64 0] := by kernel_rfl
  have hrz : ∀ ty, (Builtin.append_ #[49, 3] ty #[.slice (Option.some ⟨g, 0, Option.none⟩) i c, .int .i64 ((n : Int) + 1 - (i : Int))]).run Tryz.prog w1 = .ok (.slice (Option.some ⟨w1.heap.size, 0, Option.none⟩) (n + 1) G) W1 := fun ty => by
    have h := Lib.run_append_grow_zeros w1 49 3 ty 52 i0 _ .i64 .i64 Tryz.underlying49 Tryz.underlying3 hii hz0 (Option.some ⟨g, 0, Option.none⟩) i c _ hold (n + 1 - i) (by omega) (by rw [hz1]; omega) (by omega) (by omega) (by rw [hz2]; omega) (by rw [hz2, hik]; exact growslice_fits (by omega) (by omega))
    rw [hik, ← hG, hcells, ← hROW, ← hW1] at h
    rw [hkk]
    exact h
  have hRl : ROW.toList.length = G * 2 := by
    rw [hROW]
    simp [Builtin.zeroCells, wcl_length]
    omega
  have hRt : ROW.toList.take (i * 2) = wcl (L.take i) := by
    rw [hROW, wcl_take]
    simp only [Array.toList_append, List.append_assoc]
    rw [List.take_append_of_le_length (by simp [wcl_length]; omega), List.take_of_length_le (by simp [wcl_length]; omega)]
  generalize hN : w1.heap.size = N at *
  have hR1 : Bk W1 N ROW.toList := by
    rw [hW1, ← hN]
    unfold Bk
    have := heap_alloc_new w1.drew (.cells ROW 52)
    simpa using this
  have hG1 : w1.grownBy W1 Option.none := by
    rw [hW1]
    exact ⟨rfl, rfl, rfl, by rw [alloc_size]; exact Nat.le_succ _, fun k hk _ => Below.heap_alloc _ _ _ hk⟩
  have hX11 : Bk W1 g X := (hG1.block g (by omega) (by simp)).trans hX1
  have hY11 : Bk W1 nb [.int .i64 a, .int .i64 b] := (hG1.block nb (by omega) (by simp)).trans hY1
  obtain ⟨news, hnews⟩ : ∃ news, news = (wcl L).drop (i * 2) := ⟨_, rfl⟩
  have hlen : news.length = (n - i) * 2 := by rw [hnews, List.length_drop, wcl_length, hn]; omega
  have hone : ∀ u ∈ news, u.oneCell' = true := fun u hu => wcl_one L u (by rw [hnews] at hu; exact List.mem_of_mem_drop hu)
  obtain ⟨W2, hW2⟩ : ∃ W2, W2 = W1.setCells N (i * 2) [.int .i64 a, .int .i64 b] := ⟨_, rfl⟩
  have hcp1 : ∀ ty k1, (Builtin.copy_ #[49, 49] ty #[.slice (Option.some ⟨N, i * 2, Option.none⟩) (n + 1 - i) k1, .slice (Option.some ⟨nb, 0, Option.none⟩) 1 1]).run Tryz.prog W1 = .ok (goInt 1) W2 := fun ty k1 => by
    have hmin : Nat.min 1 (n + 1 - i) = 1 := Nat.min_eq_left (by omega)
    rw [run_copy_wins W1 ty N (i * 2) (n + 1 - i) k1 ⟨nb, 0, Option.none⟩ 1 1 _ [.int .i64 a, .int .i64 b] hR1 (by rw [hmin]; rfl) (fun t u hu => by rw [add_at, Nat.zero_add, (hY11.cell t).1]; exact hu) (by rw [hRl]; simp; omega) (by simp [Value.oneCell']), hmin, hW2]
    rfl
  have hG2 : w1.grownBy W2 Option.none := by
    have := setCells_turn N [.int .i64 a, .int .i64 b] (i * 2) W1
    rw [← hW2] at this
    exact ⟨this.os.trans hG1.os, this.tape.trans hG1.tape, this.output.trans hG1.output, Nat.le_trans hG1.size this.size, fun k hk hne => (this.block k (Nat.lt_of_lt_of_le hk hG1.size) (by simp; omega)).trans (hG1.block k hk hne)⟩
  have hR2 : Bk W2 N (splice ROW.toList (i * 2) [.int .i64 a, .int .i64 b]) := by
    rw [hW2]
    exact Bk.setCells _ _ _ W1 hR1 (by rw [hRl]; simp; omega)
  have hX2 : Bk W2 g X := (hG2.block g (by omega) (by simp)).trans hX1
  have hL2 : (splice ROW.toList (i * 2) [.int .i64 a, .int .i64 b]).length = G * 2 := by rw [length_splice _ _ _ (by rw [hRl]; simp; omega), hRl]
  obtain ⟨W3, hW3⟩ : ∃ W3, W3 = W2.drew.setCells N ((i + 1) * 2) news := ⟨_, rfl⟩
  have hcp2 : ∀ ty k1 k2, (Builtin.copy_ #[49, 49] ty #[.slice (Option.some ⟨N, (i + 1) * 2, Option.none⟩) (n - i) k1, .slice (Option.some ⟨g, i * 2, Option.none⟩) (n - i) k2]).run Tryz.prog W2.drew = .ok (goInt ((n - i : Nat) : Int)) W3 := fun ty k1 k2 => by
    have hmin : Nat.min (n - i) (n - i) = n - i := Nat.min_self _
    rw [run_copy_wins W2.drew ty N ((i + 1) * 2) (n - i) k1 ⟨g, i * 2, Option.none⟩ (n - i) k2 _ news hR2 (by rw [hmin]; exact hlen) (fun t u hu => by rw [add_at]; exact ((hX2.cell _).1).trans (hget _ u (by rw [hnews, List.getElem?_drop] at hu; exact hu))) (by rw [hlen, hL2]; omega) hone, hmin, hW3]
  have hG3 : w1.grownBy W3 Option.none := by
    have := setCells_turn N news ((i + 1) * 2) W2.drew
    rw [← hW3] at this
    exact ⟨this.os.trans hG2.os, this.tape.trans hG2.tape, this.output.trans hG2.output, Nat.le_trans hG2.size this.size, fun k hk hne => (this.block k (Nat.lt_of_lt_of_le hk hG2.size) (by simp; omega)).trans (hG2.block k hk hne)⟩
  have hR3 : Bk W3 N (splice (splice ROW.toList (i * 2) [.int .i64 a, .int .i64 b]) ((i + 1) * 2) news) := by
    rw [hW3]
    exact Bk.setCells _ _ _ W2.drew hR2 (by rw [hlen, hL2]; omega)
  have hll : (L.take i ++ [(a, b)] ++ L.drop i).length = n + 1 := by simp; omega
  have HW3 : Hid (Wow W3 base (.slice (Option.some ⟨N, 0, Option.none⟩) (n + 1) G) (L.take i ++ [(a, b)] ++ L.drop i) ∧ w1.grownBy W3 Option.none) := Lib.hid (by
    refine ⟨?_, hG3⟩
    have := Wow.ofBk (L := L.take i ++ [(a, b)] ++ L.drop i) (c := G) (base := base) hR3 (by omega) (by rw [hll]; omega) hGm (by rw [length_splice _ _ _ (by rw [hlen, hL2]; omega), hL2]) (by
      have hm := splice_two ROW.toList news (i * 2) (.int .i64 a) (.int .i64 b) (by rw [hlen, hRl]; omega)
      rw [show i * 2 + 2 = (i + 1) * 2 by omega, show (i + 1) * 2 + news.length = (n + 1) * 2 by rw [hlen]; omega] at hm
      rw [hll, hm, wcl_app, wcl_app, wcl_drop, ← hnews, hRt]
      rfl)
    rw [hll] at this
    exact this)
  have hG63 : G ≤ 9223372036854775807 := by unfold maxLen at hGm; omega
  have hGi : ¬ G = i := by omega
  have hGim : ¬ G = i + 1 := by omega
  have hci : ¬ c = i := by omega
  have hGI : (n : Int) + 1 ≤ (G : Int) := by omega
  have hiG : (i : Int) ≤ (G : Int) := by omega
  have hiG1 : (i : Int) + 1 ≤ (G : Int) := by omega
  clear h hw1 hs hn hX hX1 hY1 hX2 hX11 hY11 hXt hXl hget hone hlen hnews hG1 hG2 hG3 hL2 hll hnl hcm hW1 hW2 hW3 hR1 hR2 hR3 hRl hRt hROW hold hG hGm hik hkk hcells hii hz0 hz1 hz2 hN hnb hz1'
  go_enter Tryz.func45, Tryz.ntmps45
  go_wp2_with (at_builtin; refine Lib.wpList_append_run _ rfl _ _ _ _ rfl _ _ rfl rfl _ _ (hrz _) ?_)
  go_region
  go_wp2_with fail
  go_ret
  exact ⟨G, rfl, HW3.out⟩
/-- A window is inserted at a place. -/
def insAt (L : List (Int × Int)) (i : Nat) (p : Int × Int) : List (Int × Int) := L.take i ++ [p] ++ L.drop i
theorem insAt_length (L : List (Int × Int)) (i : Nat) (p : Int × Int) (h : i ≤ L.length) : (insAt L i p).length = L.length + 1 := by simp [insAt]; omega
theorem insert_any (base : Nat) (A : Option Addr) (c : Nat) (L : List (Int × Int)) (i : Nat) (a b : Int) (w w1 : World) (h : Wow w base (.slice A L.length c) L) (hw1 : w1 = w.alloc (.cells #[.int .i64 a, .int .i64 b] 52)) (hb : base ≤ w.heap.size) (hi : i ≤ L.length) (hl : L.length ≤ 100000) :
    Calls Tryz.prog 45 #[.slice A L.length c, .int .i64 (i : Int), .slice (some ⟨w.heap.size, 0, none⟩) 1 1] w1 fun e w' => ∃ A' c', e = .returned (.slice A' (L.length + 1) c') ∧ Wow w' base (.slice A' (L.length + 1) c') (insAt L i (a, b)) ∧ w1.grownBy w' (Value.slice A L.length c).ownBlock ∧ ((Value.slice A' (L.length + 1) c').ownBlock = (Value.slice A L.length c).ownBlock ∨ (Value.slice A' (L.length + 1) c').ownBlock = some w1.heap.size) := by
  by_cases he : i = L.length
  · subst he
    have e : insAt L L.length (a, b) = L ++ [(a, b)] := by simp [insAt]
    rw [e]
    exact insert_end base A c L a b w w1 h hw1 hb hl
  · have hne : L ≠ [] := fun e => by subst e; simp at hi; exact he (by simpa using hi)
    obtain ⟨g, rfl, _⟩ := h.some hne
    by_cases hnc : L.length + 1 ≤ c
    · refine (insert_room base g c L.length L i a b w w1 h hw1 rfl (by omega) hnc hl).mono ?_
      rintro e w' ⟨rfl, h1, h2⟩
      exact ⟨_, _, rfl, h1, h2, .inl rfl⟩
    · refine (insert_grow base g c L.length L i a b w w1 h hw1 hb rfl (by omega) hnc hl).mono ?_
      rintro e w' ⟨G, rfl, h1, h2⟩
      exact ⟨_, _, rfl, h1, ⟨h2.os, h2.tape, h2.output, h2.size, fun k hk _ => h2.block k hk (by simp)⟩, .inr rfl⟩
/-- Windows in order from a moment on, none touching another. -/
def Ordw : Int → List (Int × Int) → Prop
  | _, [] => True
  | f, p :: r => f ≤ p.1 ∧ p.1 < p.2 ∧ p.2 ≤ 1048576 ∧ Ordw p.2 r
theorem Ordw.lower {f f' : Int} : ∀ {L : List (Int × Int)}, Ordw f L → f' ≤ f → Ordw f' L
  | [], _, _ => trivial
  | _ :: _, ⟨h1, h2⟩, h => ⟨by omega, h2⟩
theorem Ordw.least {f : Int} : ∀ {L : List (Int × Int)}, Ordw f L → ∀ t, t < L.length → f < (L.getD t (0, 0)).2 ∧ f ≤ (L.getD t (0, 0)).1 ∧ (L.getD t (0, 0)).1 < (L.getD t (0, 0)).2
  | [], _, t, ht => by simp at ht
  | p :: r, ⟨h1, h2, h3, h4⟩, 0, _ => ⟨by show f < p.2; omega, h1, h2⟩
  | p :: r, ⟨h1, h2, h3, h4⟩, t + 1, ht => by
    have := Ordw.least h4 t (by simpa using ht)
    simp only [List.getD_cons_succ]
    omega
theorem Ordw.rising {f : Int} : ∀ {L : List (Int × Int)}, Ordw f L → Rising L
  | [], _, a, b, _, hb => by simp at hb
  | p :: r, ⟨h1, h2, h3, h4⟩, 0, 0, _, _ => Int.le_refl _
  | p :: r, ⟨h1, h2, h3, h4⟩, 0, b + 1, _, hb => by
    have := (Ordw.least h4 b (by simpa using hb)).1
    simp only [List.getD_cons_succ]
    exact Int.le_of_lt this
  | p :: r, ⟨h1, h2, h3, h4⟩, a + 1, 0, hab, _ => by omega
  | p :: r, ⟨h1, h2, h3, h4⟩, a + 1, b + 1, hab, hb => by
    simp only [List.getD_cons_succ]
    exact Ordw.rising h4 a b (by omega) (by simpa using hb)
/-- In order still, if a window is put where the ends pass its beginning, and what stands there begins behind its end. -/
theorem Ordw.ins {f a b : Int} : ∀ {L : List (Int × Int)}, Ordw f L → f ≤ a → a < b → b ≤ 1048576 → (plc L a < L.length → b ≤ (L.getD (plc L a) (0, 0)).1) → Ordw f (insAt L (plc L a) (a, b))
  | [], _, h1, h2, h3, _ => ⟨h1, h2, h3, trivial⟩
  | p :: r, ⟨k1, k2, k3, k4⟩, h1, h2, h3, h4 => by
    by_cases hp : p.2 ≤ a
    · have e : plc (p :: r) a = plc r a + 1 := by simp [plc, hp]
      rw [e] at h4 ⊢
      exact ⟨k1, k2, k3, Ordw.ins k4 hp h2 h3 (fun h => by simpa using h4 (by simpa using h))⟩
    · have e : plc (p :: r) a = 0 := by simp [plc, hp]
      rw [e] at h4 ⊢
      have := h4 (by simp)
      exact ⟨h1, h2, h3, by simpa using this, k2, k3, k4⟩
theorem Ordw.del {f : Int} : ∀ {L : List (Int × Int)} (i j : Nat), Ordw f L → i ≤ j → Ordw f (L.take i ++ L.drop j)
  | [], i, j, _, _ => by simp [Ordw]
  | p :: r, 0, 0, h, _ => by simpa using h
  | p :: r, 0, j + 1, ⟨k1, k2, k3, k4⟩, _ => by
    have := Ordw.del 0 j k4 (by omega)
    exact (by simpa using this : Ordw p.2 (r.drop j)).lower (by omega)
  | p :: r, i + 1, 0, _, h => by omega
  | p :: r, i + 1, j + 1, ⟨k1, k2, k3, k4⟩, h => ⟨k1, k2, k3, Ordw.del i j k4 (by omega)⟩
end Go.Proofs.YtcdclghmebgpnaaGreatDoor.Wn
