/-
  Layer 8, the document's answers: May.
-/
import Derived.Test.YtljmigomhoefpaaBkR4
set_option linter.unusedVariables false
set_option maxRecDepth 100000
namespace Go.Proofs.Ytljmigomhoefpaa.Bk
open Go.RowKit

theorem ahead_get {C : Cm} {who : Nat} (hw : who < C.length) (z : Int) (i : Nat) (hi : i < C.length) : (ahead C who z)[i]? = some (if i = who then z :: hold C who else hold C i, need C i) := by
  unfold ahead
  rw [List.getElem?_set]
  by_cases e : who = i
  · subst e
    simp [hw]
  · rw [if_neg e, if_neg (fun h => e h.symm)]
    simp [hold, need, List.getD, List.getElem?_eq_getElem hi]
/-- One claim, in a block of its own. -/
theorem gt_one (w : World) (u v : Value) : Gt 2 (w.alloc (.cells #[u, v] 33)).heap.size (w.alloc (.cells #[u, v] 33)) (some ⟨w.heap.size, 0, none⟩) 1 1 (pcl [(u, v)]) := by
  refine ⟨rfl, Nat.le_refl _, by unfold maxLen; omega, fun h => (by cases h), fun _ => ⟨w.heap.size, 0, rfl, by simp, fun j hj => ?_⟩⟩
  rcases (by omega : j = 0 ∨ j = 1) with rfl | rfl <;> simp [World.cell?_alloc_new, pcl]
theorem gt_one_at (w : World) (b : Nat) (hb : b = w.heap.size) (u v : Value) : Gt 2 (w.alloc (.cells #[u, v] 33)).heap.size (w.alloc (.cells #[u, v] 33)) (some ⟨b, 0, none⟩) 1 1 (pcl [(u, v)]) := by
  subst hb; exact gt_one w u v
/-- A claim of the list under way, for the j-th: as it is, or with the zone ahead of what it holds. -/
def Pr (w0 : World) (C : Cm) (k : Nat) (z : Int) (v : Value) (wr : World) (j : Nat) (p : Value × Value) : Prop :=
  (j ≠ k → Sl w0.heap.size wr p.1 (hold C j)) ∧ (j = k → Iw wr w0.heap.size p.1 (z :: hold C k) ∧ ∀ b, p.1.ownBlock = some b → v.ownBlock ≠ some b) ∧ Sl w0.heap.size wr p.2 (need C j)
/-- The list under way. -/
structure Ms (w0 : World) (C : Cm) (k : Nat) (z : Int) (i : Nat) (v : Value) (P : List (Value × Value)) (wr : World) : Prop where
  below : Below w0.heap.size w0 wr
  own : Cw wr w0.heap.size v P
  len : P.length = i
  each : ∀ j p, P[j]? = some p → Pr w0 C k z v wr j p
theorem Ms.start (w0 : World) (C : Cm) (k : Nat) (z : Int) : Ms w0 C k z 0 (.slice none 0 0) [] w0 := ⟨Below.refl _ _, World.ownsRow_nil _ _ _ _, rfl, fun j p e => by simp at e⟩
theorem Ms.later {w0 wr W : World} {C : Cm} {k i : Nat} {z : Int} {v : Value} {P : List (Value × Value)} (h : Ms w0 C k z i v P wr) (hb : Below wr.heap.size wr W) : Ms w0 C k z i v P W :=
  ⟨h.below.trans (hb.mono h.below.size), h.own.later hb, h.len, fun j p e => by
    obtain ⟨h1, h2, h3⟩ := h.each j p e
    exact ⟨fun hj => (h1 hj).below (hb.mono h.below.size), fun hj => ⟨Iw.later (h2 hj).1 hb, (h2 hj).2⟩, h3.below (hb.mono h.below.size)⟩⟩
theorem Ms.add {w0 W w9 : World} {C : Cm} {k i : Nat} {z : Int} {v v' : Value} {u1 u2 : Value} {P : List (Value × Value)} (h : Ms w0 C k z i v P W) (hg : W.grownBy w9 v.ownBlock) (hown : Cw w9 w0.heap.size v' (P ++ [(u1, u2)])) (hv : v'.ownBlock = v.ownBlock ∨ v'.ownBlock = some W.heap.size)
    (hp : Pr w0 C k z v' w9 i (u1, u2)) : Ms w0 C k z (i + 1) v' (P ++ [(u1, u2)]) w9 := by
  have hb : Below w0.heap.size W w9 := Below.grown (Below.refl _ _) hg h.below.size (fun b hb => (World.ownsRow.lt h.own b hb).1)
  refine ⟨h.below.trans hb, hown, by rw [List.length_append, h.len]; rfl, fun j p e => ?_⟩
  rw [List.getElem?_append] at e
  split at e
  · obtain ⟨h1, h2, h3⟩ := h.each j p e
    refine ⟨fun hj => (h1 hj).below hb, fun hj => ⟨ownsRow_same (h2 hj).1 (fun b hb => hg.block b (World.ownsRow.lt (h2 hj).1 b hb).2 (fun e => (h2 hj).2 b hb e.symm)), fun b hb2 => ?_⟩, h3.below hb⟩
    rcases hv with q | q
    · rw [q]; exact (h2 hj).2 b hb2
    · rw [q]
      have := (World.ownsRow.lt (h2 hj).1 b hb2).2
      intro e
      injection e with e
      omega
  · rename_i hj
    have hj2 : j - P.length = 0 := by have := (List.getElem?_eq_some_iff.1 e).1; simp at this; omega
    rw [hj2] at e
    simp at e
    subst e
    have : j = i := by have := h.len; omega
    subst this
    exact hp
theorem Ms.cl {w0 wr : World} {C : Cm} {k i n c : Nat} {z : Int} {A : Option Addr} {P : List (Value × Value)} (h : Ms w0 C k z i (.slice A n c) P wr) (hi : i = C.length) (hk : k < C.length) : Cl wr.heap.size wr A n c (ahead C k z) := by
  refine ⟨P, h.own.gt.2, by rw [h.len, hi]; simp [ahead], fun j p e => ?_⟩
  obtain ⟨h1, h2, h3⟩ := h.each j p e
  have hj : j < C.length := by have := (List.getElem?_eq_some_iff.1 e).1; rw [h.len, hi] at this; exact this
  have eh : hold (ahead C k z) j = if j = k then z :: hold C k else hold C j := by unfold ahead; rw [hold_set hk]
  have en : need (ahead C k z) j = need C j := by
    unfold ahead; rw [need_set hk]
    split
    · rename_i e; rw [e]
    · rfl
  rw [eh, en]
  refine ⟨?_, h3.raise h.below.size⟩
  by_cases e : j = k
  · rw [if_pos e]
    obtain ⟨q1, _⟩ := h2 e
    obtain ⟨A', c', e2⟩ := own_form q1
    rw [e2] at q1 ⊢
    exact ⟨_, _, _, rfl, q1.lt.2⟩
  · rw [if_neg e]
    exact (h1 e).raise h.below.size
theorem own_else {w : World} {base k n bx x : Nat} {e : TypeId} {v u : Value} {xs : List Value} (h : w.ownsRow base e k v n xs) (hb : bx < base) : (w.setCell ⟨bx, x, none⟩ u).ownsRow base e k v n xs :=
  ownsRow_same h (fun g hg => Below.heap_setCell _ _ _ _ (fun e => by have := (h.lt g hg).1; have e2 : bx = g := by first | exact e | exact e.symm
                                                                      omega))
set_option maxHeartbeats 4000000 in
theorem r8may_any (A : Option Addr) (n cap : Nat) (C : Cm) (who zone : Int) (w : World) (h : Cl w.heap.size w A n cap C) (h40 : ∀ i, i < n → (hold C i).length ≤ 1000) : Calls Try.prog 19 #[.slice A n cap, .int .i64 who, .int .i64 zone] w (Told8 (MayP C who zone) w) := by
  have HC := Lib.hid h
  have HN := Lib.hid h.len
  have H40 := Lib.hid h40
  have hs1 := h.size.1
  have hs2 := h.size.2
  clear h h40
  go_enter Try.func19, Try.ntmps19
  go_wp2_with fail
  refine (rright_any A n cap C w HC.out).mono ?_
  rintro e w1 ⟨b, rfl, hb, hc1⟩
  have HB1 := Lib.hid hc1
  have HC1 := Lib.hid (HC.out.later hc1)
  cases b with
  | false =>
    have HM : Hid (¬ MayP C who zone) := Lib.hid (fun h => by have := hb.2 h.1; cases this)
    clear hb hc1
    go_wp2_with fail
    go_ret
    exact ⟨false, rfl, iff_of_false (by decide) HM.out, HB1.out⟩
  | true =>
    have HR : Hid (Rg C) := Lib.hid (hb.1 rfl)
    have hn8 : n ≤ 8 := by rw [← HN.out]; exact HR.out.few
    clear hb hc1
    by_cases h1 : who < 0
    · have d1 : decide (who < 0) = true := decide_eq_true h1
      have HM : Hid (¬ MayP C who zone) := Lib.hid (fun h => by have := h.2.1; omega)
      go_wp2_with fail
      go_ret
      exact ⟨false, rfl, iff_of_false (by decide) HM.out, HB1.out⟩
    · have d1 : decide (who < 0) = false := decide_eq_false h1
      by_cases h2 : (n : Int) ≤ who
      · have d2 : decide ((n : Int) ≤ who) = true := decide_eq_true h2
        have HM : Hid (¬ MayP C who zone) := Lib.hid (fun h => by have := h.2.2.1; rw [HN.out] at this; omega)
        go_wp2_with fail
        go_ret
        exact ⟨false, rfl, iff_of_false (by decide) HM.out, HB1.out⟩
      · have d2 : decide ((n : Int) ≤ who) = false := decide_eq_false h2
        by_cases h3 : zone < 0
        · have d3 : decide (zone < 0) = true := decide_eq_true h3
          have HM : Hid (¬ MayP C who zone) := Lib.hid (fun h => by have := h.2.2.2.1.1; omega)
          go_wp2_with fail
          go_ret
          exact ⟨false, rfl, iff_of_false (by decide) HM.out, HB1.out⟩
        · have d3 : decide (zone < 0) = false := decide_eq_false h3
          by_cases h4 : 26 ≤ zone
          · have d4 : decide (26 ≤ zone) = true := decide_eq_true h4
            have HM : Hid (¬ MayP C who zone) := Lib.hid (fun h => by have := h.2.2.2.1.2; omega)
            go_wp2_with fail
            go_ret
            exact ⟨false, rfl, iff_of_false (by decide) HM.out, HB1.out⟩
          · have d4 : decide (26 ≤ zone) = false := decide_eq_false h4
            have HZ : Hid (Zn zone) := Lib.hid ⟨by omega, by omega⟩
            obtain ⟨k, rfl⟩ := Int.eq_ofNat_of_zero_le (show 0 ≤ who by omega)
            have hk : k < n := by omega
            have d5 : decide (n ≤ k) = false := decide_eq_false (by omega)
            clear h1 h2 h3 h4
            go_wp2_with fail
            clear d1 d2 d3 d4 d5
            go_loopw [7, 8] (fun xv iv wr => ∃ (i : Nat) (Ax : Option Addr) (nx cx : Nat), i ≤ n ∧ iv = .int .i64 (i : Int) ∧ xv = .slice Ax nx cx ∧ Hid ((∀ t, t < i → zone ∉ hold C t) ∧ ∃ P, Ms w1 C k zone i (.slice Ax nx cx) P wr)) (fun _ iv _ => n - (intOf iv).toNat)
            case atStart => exact ⟨0, none, 0, 0, Nat.zero_le _, rfl, rfl, Lib.hid ⟨fun t ht => by omega, [], Ms.start w1 C k zone⟩⟩
            case round =>
              rename World => wr
              obtain ⟨i, Ax, nx, cx, hi, rfl, rfl, HSS⟩ := hrel
              obtain ⟨P, hms⟩ := HSS.out.2
              have HS := Lib.hid hms
              have HBR := Lib.hid (HB1.out.trans (hms.below.mono HB1.out.size))
              clear hms
              by_cases hlt : i < n
              · obtain ⟨g, off, a1, n1, c1, a2, n2, c2, rfl, hg, q1, q2, k1, k2⟩ := (HC1.out.below HS.out.below).cell hlt
                have HK1 := Lib.hid k1
                have HK2 := Lib.hid k2
                have HIN := Lib.hid (rin_any zone a1 n1 c1 _ (hold C i) wr k1)
                have HL1 := Lib.hid k1.len
                have HBW := Lib.hid HS.out.below.size
                clear k1 k2
                by_cases hin : zone ∈ hold C i
                · have HM : Hid (¬ MayP C (k : Int) zone) := Lib.hid (fun h => h.2.2.2.2.1 i (by rw [HN.out]; exact hlt) hin)
                  have HINN := Lib.hid hin
                  clear hin
                  go_wp2_with fail
                  refine HIN.out.mono ?_
                  rintro e w' ⟨b, rfl, hb, rfl⟩
                  obtain rfl : b = true := hb.2 HINN.out
                  clear hb
                  go_wp2_with fail
                  go_ret
                  exact ⟨false, rfl, iff_of_false (by decide) HM.out, HBR.out⟩
                · have HINN := Lib.hid hin
                  have HNX : Hid (∀ t, t < i + 1 → zone ∉ hold C t) := Lib.hid (fun t ht => by
                    rcases Nat.lt_succ_iff_lt_or_eq.1 ht with h | h
                    · exact HSS.out.1 t h
                    · rw [h]; exact hin)
                  clear hin
                  go_wp2_with fail
                  refine HIN.out.mono ?_
                  rintro e w' ⟨b, rfl, hb, rfl⟩
                  obtain rfl : b = false := Bool.eq_false_iff.2 (fun e => HINN.out (hb.1 e))
                  clear hb
                  have hcl := (Below.refl wr.heap.size wr).alloc (Nat.le_refl _) (.cells #[.slice a1 n1 c1, .slice a2 n2 c2] 33)
                  have HBX := Lib.hid hcl
                  have b0 : (wr.alloc (.cells #[.slice a1 n1 c1, .slice a2 n2 c2] 33)).cell? ⟨wr.heap.size, 0, none⟩ = some (.slice a1 n1 c1) := by simp [World.cell?_alloc_new]
                  have b1 : (wr.alloc (.cells #[.slice a1 n1 c1, .slice a2 n2 c2] 33)).cell? ⟨wr.heap.size, 1, none⟩ = some (.slice a2 n2 c2) := by simp [World.cell?_alloc_new]
                  have b2 : (wr.alloc (.cells #[.slice a1 n1 c1, .slice a2 n2 c2] 33)).frozen? ⟨wr.heap.size, 0, none⟩ = false := frozen_of_row _ _ _ _ _ (heap_alloc_new wr _)
                  have hsz : (wr.alloc (.cells #[.slice a1 n1 c1, .slice a2 n2 c2] 33)).heap.size = wr.heap.size + 1 := by simp
                  have HSZ := Lib.hid hsz
                  have HPL : Hid (P.length + 1 ≤ 1000000) := Lib.hid (by have := HS.out.len; omega)
                  clear hcl hsz
                  go_upto_if 52 with (fail)
                  generalize wr.alloc (.cells #[.slice a1 n1 c1, .slice a2 n2 c2] 33) = wb at *
                  by_cases hik : i = k
                  · subst hik
                    have hie : ((i : Int) == (i : Int)) = true := by simp
                    have hA3 := (Below.refl wb.heap.size wb).alloc (Nat.le_refl _) (.cells #[.int .i64 zone] 3)
                    have HBZ := Lib.hid (HBX.out.trans (hA3.mono HBX.out.size))
                    have z0 := (hA3.cell (p := ⟨wr.heap.size, 0, none⟩) (by rw [HSZ.out]; exact Nat.lt_succ_self _)).trans b0
                    have HONE := Lib.hid (own_one wb zone wb.heap.size (Nat.le_refl _))
                    have HHL := Lib.hid (Gt.raise (Gt.below HK1.out (HBZ.out.mono HBW.out)) (Nat.le_trans HBW.out HBZ.out.size))
                    have HA3 := Lib.hid hA3
                    have HBOX := Lib.hid (And.intro b0 (And.intro b1 b2))
                    have HLL : Hid ([zone].length + n1 ≤ 1000000) := Lib.hid (by have := H40.out i hlt; have := HL1.out; simp; omega)
                    clear hA3 b0 b1 b2
                    go_wp2_with (first
                      | ((fail_if_success have _k := HO4); at_builtin; (refine app_ints rfl _ _ rfl wb.heap.size (.slice (some ⟨wb.heap.size, 0, none⟩) 1 1) [zone] rfl HONE.out a1 n1 c1 (hold C i) rfl HHL.out HLL.out (by simp) ?_; intro A4 n4 c4 w4 hn4 ho4 hb4 hg4 hd4; have HO4 := Lib.hid ho4; have HB4 := Lib.hid (HA3.out.trans hb4); have y0 := (HB4.out.cell (p := ⟨wr.heap.size, 0, none⟩) (by rw [HSZ.out]; exact Nat.lt_succ_self _)).trans HBOX.out.1; have y1 := (HB4.out.cell (p := ⟨wr.heap.size, 1, none⟩) (by rw [HSZ.out]; exact Nat.lt_succ_self _)).trans HBOX.out.2.1; have y2 := (World.frozen?_of_block (a := ⟨wr.heap.size, 0, none⟩) (HB4.out.block wr.heap.size (by rw [HSZ.out]; exact Nat.lt_succ_self _))).trans HBOX.out.2.2; have HBS : Hid (Below wr.heap.size wr (w4.setCell ⟨wr.heap.size, 0, none⟩ (.slice A4 n4 c4))) := Lib.hid ((HBX.out.trans (HB4.out.mono HBX.out.size)).setCell (Nat.le_refl _) _); clear ho4 hb4 hn4 hg4 hd4))
                      | (have _k := HO4; at_builtin; (refine app_claims rfl _ _ rfl w1.heap.size (.slice Ax nx cx) P rfl (Cw.later HS.out.own (HBS.out.alloc HBS.out.size _)) _ 1 1 [(.slice A4 n4 c4, .slice a2 n2 c2)] rfl (gt_one_at _ _ (by simp [World.setCell]) _ _) (by intro u hu; simp [pcl] at hu; rcases hu with rfl | rfl <;> rfl) HPL.out (Nat.le_trans HBW.out (Nat.le_trans HBS.out.size (by simp))) ?_; intro A7 n7 c7 w7 hn7 ho7 hb7 hg7 hd7; have HO7 := Lib.hid ho7; have HG7 := Lib.hid hg7; have HD7 := Lib.hid hd7; clear ho7 hb7 hn7 hg7 hd7)))
                    have HMS : Hid (Ms w1 C i zone (i + 1) (.slice A7 n7 c7) (P ++ [(.slice A4 n4 c4, .slice a2 n2 c2)]) w7) := Lib.hid (by
                      have hW := HBS.out.alloc HBS.out.size (.cells #[.slice A4 n4 c4, .slice a2 n2 c2] 33)
                      have hms := HS.out.later hW
                      have hb7 : Below w1.heap.size wr w7 := (hW.mono HBW.out).trans (Below.grown (Below.refl _ _) HG7.out hms.below.size (fun b hb => (World.ownsRow.lt hms.own b hb).1))
                      have hI4 : Iw (w4.setCell ⟨wr.heap.size, 0, none⟩ (.slice A4 n4 c4)) wb.heap.size (.slice A4 n4 c4) ([zone] ++ hold C i) := own_else HO4.out (by rw [HSZ.out]; exact Nat.lt_succ_self _)
                      have hIW := Iw.later hI4 ((Below.refl _ _).alloc (Nat.le_refl _) (.cells #[.slice A4 n4 c4, .slice a2 n2 c2] 33))
                      have hax : ∀ b, (Value.slice Ax nx cx).ownBlock = some b → b < wr.heap.size := fun b hb => (World.ownsRow.lt HS.out.own b hb).2
                      have hge : ∀ b, (Value.slice A4 n4 c4).ownBlock = some b → wr.heap.size < b ∧ b < ((w4.setCell ⟨wr.heap.size, 0, none⟩ (.slice A4 n4 c4)).alloc (.cells #[.slice A4 n4 c4, .slice a2 n2 c2] 33)).heap.size := fun b hb => by
                        have h1 := World.ownsRow.lt hIW b hb
                        have h2 := HSZ.out
                        omega
                      refine hms.add HG7.out HO7.out HD7.out ⟨fun h => absurd rfl h, fun _ => ⟨?_, fun b hb => ?_⟩, Sl.below ⟨_, _, _, rfl, HK2.out⟩ hb7⟩
                      · have h3 : Iw w7 wb.heap.size (.slice A4 n4 c4) ([zone] ++ hold C i) := ownsRow_same hIW (fun b hb => HG7.out.block b (World.ownsRow.lt hIW b hb).2 (fun e => by have h1 := hax b e.symm; have h2 := (hge b hb).1; omega))
                        exact own_lower h3 (by have := HSZ.out; have := HBW.out; omega)
                      · have h2 := hge b hb
                        rcases HD7.out with e | e
                        · rw [e]; intro e2; have := hax b e2; omega
                        · rw [e]; intro e2; injection e2 with e2; omega)
                    refine ⟨⟨i + 1, A7, n7, c7, by omega, by go_num, rfl, Lib.hid ⟨HNX.out, _, HMS.out⟩⟩, ?_⟩
                    simp [intOf]; omega
                  · have hie : ((i : Int) == (k : Int)) = false := by rw [beq_eq_false_iff_ne]; omega
                    have HIK := Lib.hid hik
                    clear hik
                    go_wp2_with (at_builtin; (refine app_claims rfl _ _ rfl w1.heap.size (.slice Ax nx cx) P rfl (Cw.later HS.out.own (HBX.out.alloc HBX.out.size _)) _ 1 1 [(.slice a1 n1 c1, .slice a2 n2 c2)] rfl (gt_one _ _ _) (by intro u hu; simp [pcl] at hu; rcases hu with rfl | rfl <;> rfl) HPL.out (Nat.le_trans HBW.out (Nat.le_trans HBX.out.size (by simp))) ?_; intro A7 n7 c7 w7 hn7 ho7 hb7 hg7 hd7; have HO7 := Lib.hid ho7; have HG7 := Lib.hid hg7; have HD7 := Lib.hid hd7; clear ho7 hb7 hn7 hg7 hd7))
                    have HMS : Hid (Ms w1 C k zone (i + 1) (.slice A7 n7 c7) (P ++ [(.slice a1 n1 c1, .slice a2 n2 c2)]) w7) := Lib.hid (by
                      have hW := HBX.out.alloc HBX.out.size (.cells #[.slice a1 n1 c1, .slice a2 n2 c2] 33)
                      have hms := HS.out.later hW
                      have hb7 : Below w1.heap.size wr w7 := (hW.mono HBW.out).trans (Below.grown (Below.refl _ _) HG7.out hms.below.size (fun b hb => (World.ownsRow.lt hms.own b hb).1))
                      exact hms.add HG7.out HO7.out HD7.out ⟨fun _ => Sl.below ⟨_, _, _, rfl, HK1.out⟩ hb7, fun h => absurd h HIK.out, Sl.below ⟨_, _, _, rfl, HK2.out⟩ hb7⟩)
                    refine ⟨⟨i + 1, A7, n7, c7, by omega, by go_num, rfl, Lib.hid ⟨HNX.out, _, HMS.out⟩⟩, ?_⟩
                    simp [intOf]; omega
              · obtain rfl : i = n := by omega
                have HCL := Lib.hid (HS.out.cl HN.out.symm (by rw [HN.out]; exact hk))
                have HMM : Hid ((Rg (ahead C k zone) ∧ SafC (ahead C k zone)) ↔ MayP C (k : Int) zone) := Lib.hid (by
                  have hkC : k < C.length := by rw [HN.out]; exact hk
                  have hno : ∀ j, j < C.length → zone ∉ hold C j := fun j hj => HSS.out.1 j (by rw [← HN.out]; exact hj)
                  constructor
                  · rintro ⟨_, h⟩
                    exact ⟨HR.out, Int.natCast_nonneg _, by omega, HZ.out, hno, by rw [Int.toNat_natCast]; exact (ahead_saf hkC zone).1 h⟩
                  · rintro ⟨_, _, _, _, _, h⟩
                    rw [Int.toNat_natCast] at h
                    exact ⟨ahead_right HR.out hkC HZ.out hno, (ahead_saf hkC zone).2 h⟩)
                go_wp2_with fail
                refine (r8order_any Ax nx cx _ _ HCL.out).mono ?_
                rintro e w8 ⟨A8, m8, c8, o, is, rfl, _, ho8, _, hb8⟩
                have HI := Lib.hid ho8.saf
                have HB8 := Lib.hid (HBR.out.trans (hb8.mono HBR.out.size))
                clear ho8 hb8
                go_wp2_with fail
                go_ret
                exact ⟨is, rfl, HI.out.trans HMM.out, HB8.out⟩
end Go.Proofs.Ytljmigomhoefpaa.Bk
