/-
  HeapKeys: the keys of sorted items are the same, however the items stood.
-/
import Derived.Test.YtihffgcahfladaaHpW8
import Derived.Test.YtihffgcahfladaaHpR2
import Derived.Test.YtihffgcahfladaaHpPlain3
import Derived.Deep.RegionHeld3
set_option linter.unusedVariables false
namespace Go.Proofs.Ytihffgcahfladaa
open Go.RowKit E

theorem run_app_items {w : World} (ty : TypeId) (base : Nat) (v : Value) (xs : List (Int × Int)) (hown : Iow w base v xs)
    (A : Option Addr) (m c : Nat) (f : Nat → Int × Int) (ys : List (Int × Int)) (hr : It w.heap.size w A m c f) (hy : ys.length = m) (hf : ∀ i, i < m → ys.getD i (0, 0) = f i) (hb : xs.length + m ≤ 1000000) (hbase : base ≤ w.heap.size) :
    ∃ v' w', (Builtin.append_ #[27, 27] ty #[v, .slice A m c]).run Try.prog w = .ok v' w' ∧ Iow w' base v' (xs ++ ys) ∧ Below base w w' ∧ w.grownBy w' v.ownBlock ∧ (v'.ownBlock = v.ownBlock ∨ v'.ownBlock = some w.heap.size) := by
  obtain ⟨i0, hi, hz0, hz1, hz2⟩ := info_parts Try.infoItem
  have hcells : ∀ (ad : Addr), A = some ad → ∀ j u, (pc ys)[j]? = some u → w.cell? (ad.add j) = some u := by
    intro ad hA j u hu
    have hjl : j < (pc ys).length := by
      rcases Nat.lt_or_ge j (pc ys).length with h | h
      · exact h
      · rw [List.getElem?_eq_none h] at hu; cases hu
    rw [pc_length] at hjl
    obtain ⟨g, off, e, hg, hc⟩ := hr.cell (by omega)
    rw [hA] at e
    injection e with e
    subst e
    have hi := pc_get ys (j / 2) (by omega)
    have hci := hc (j / 2) (by omega)
    rw [hf _ (by omega)] at hi
    have e1 : (Addr.add ⟨g, off, none⟩ j) = ⟨g, off + j, none⟩ := by unfold Addr.add; split <;> simp_all
    rw [e1]
    rcases (by omega : j = j / 2 * 2 ∨ j = j / 2 * 2 + 1) with q | q
    · have e2 : off + j = off + j / 2 * 2 := by omega
      have e3 : (pc ys)[j]? = (pc ys)[j / 2 * 2]? := by rw [← q]
      rw [e2, hci.1, ← hi.1, ← e3, hu]
    · have e2 : off + j = off + j / 2 * 2 + 1 := by omega
      have e3 : (pc ys)[j]? = (pc ys)[j / 2 * 2 + 1]? := by rw [← q]
      rw [e2, hci.2, ← hi.2, ← e3, hu]
  cases A with
  | none =>
    have hc0 := hr.nil rfl
    have hm0 : m = 0 := by have := hr.le; omega
    subst hm0
    subst hc0
    have : ys = [] := List.eq_nil_of_length_eq_zero hy
    subst this
    exact ⟨v, w, run_append_owned_none (P := Try.prog) (w := w) base 27 ty 32 i0 2 Try.underlying27 hi v xs.length (pc xs) hown, by simpa using hown, Below.refl _ _, ⟨rfl, rfl, rfl, Nat.le_refl _, fun _ _ _ => rfl⟩, .inl rfl⟩
  | some ad =>
    obtain ⟨v', w', hrun, h2, h3, _, h5⟩ := run_append_own_at (P := Try.prog) w base 27 ty 32 i0 (.agg #[.int .i64 0, .int .i64 0]) 2 16 Try.underlying27 hi hz0 hz1 hz2 rfl (by decide) v xs.length (pc xs) hown ad m c (pc ys) (by rw [pc_length, hy]) (hcells ad rfl) (pc_one ys) (by unfold maxLen; omega) (by omega) hbase
    exact ⟨v', w', hrun, by unfold Iow; rw [pc_app, List.length_append, hy]; exact h2, Below.grown (Below.refl _ _) h3 hbase (fun k hk => (hown.lt k hk).1), h3, h5⟩

/-- At a step of a region that draws its order. -/
theorem step_app_items {w : World} {ops : Array Oper} {o : Oper} {a : Act} {K : Act → World → Prop} {Q : Exit → Act → World → Prop} {F : Prop} (hgd : o.guard = none) (s x : Operand)
    (ho : o.op = .call { callee := .builtin .append, args := #[s, x], argTypes := #[27, 27] })
    (base : Nat) (v : Value) (xs : List (Int × Int)) (hs : a.eval s = v) (hown : Iow w base v xs)
    (A : Option Addr) (m c : Nat) (f : Nat → Int × Int) (ys : List (Int × Int)) (hx : a.eval x = .slice A m c) (hr : It w.heap.size w A m c f) (hy : ys.length = m) (hf : ∀ i, i < m → ys.getD i (0, 0) = f i) (hb : xs.length + m ≤ 1000000) (hbase : base ≤ w.heap.size)
    (h : ∀ v' w', Iow w' base v' (xs ++ ys) → Below base w w' → w.grownBy w' v.ownBlock → (v'.ownBlock = v.ownBlock ∨ v'.ownBlock = some w.heap.size) → K (a.put o.dst v') w') : if Region.wanted o (yielded ops a.tmps) = true then Oper.wp Try.prog o a w K Q else F := by
  have hw : Region.wanted o (yielded ops a.tmps) = true := by simp [Region.wanted, hgd]
  rw [if_pos hw]
  obtain ⟨v', w', hrun, h2, h3, h4, h5⟩ := run_app_items o.type base v xs hown A m c f ys hr hy hf hb hbase
  unfold Oper.wp execOp
  simp only [ho, resolve, invoke, builtin, Sem.run_bind, Sem.run_pure, Result.andThen_ok, List.map_toArray, List.map_cons, List.map_nil, hs, hx, hrun]
  exact h v' w' h2 h3 h4 h5

/-- So many of f, from one on. -/
def lsf2 (f : Nat → Int × Int) (k m : Nat) : List (Int × Int) := (List.range m).map fun i => f (i + k)
theorem lsf2_get (f : Nat → Int × Int) (k m i : Nat) (h : i < m) : (lsf2 f k m).getD i (0, 0) = f (i + k) := by simp [lsf2, List.getD_eq_getElem?_getD, h]
theorem cur_trans {a W w2 : World} (h : Below a.heap.size a W) (hb : Below W.heap.size W w2) : Below a.heap.size a w2 := h.trans (hb.mono h.size)
theorem un_drew {B : Nat} {a b : World} (h : Below B a.drew b) : Below B a b := ⟨h.os, h.tape, h.output, h.size, h.block⟩

theorem sort_own (v : Value) (l : List (Int × Int)) (w : World) (base : Nat) (h : Iow w base v l) (hn : l.length ≤ 100000) :
    Calls Try.prog 21 #[v] w fun e w' => ∃ g c, e = .returned (.slice (some ⟨g, 0, none⟩) l.length c) ∧ Iow w' w.heap.size (.slice (some ⟨g, 0, none⟩) l.length c) (outs (fun i => l.getD i (0, 0)) l.length) ∧ Below w.heap.size w w' := by
  obtain ⟨A, n, c, rfl⟩ := h.form
  obtain ⟨rfl, hit⟩ := h.it
  refine (sort_any A _ c _ w hit hn).mono ?_
  rintro e w' ⟨g, c', rfl, h1, h2⟩
  exact ⟨g, c', rfl, h1, h2⟩

/-- Both sorted lists. -/
def KeysMid (f : Nat → Int × Int) (k m : Nat) (wc : World) (av bv : Value) (wz : World) : Prop :=
  ∃ g1 c1 g5 c5 b1 b2, av = .slice (some ⟨g1, 0, none⟩) m c1 ∧ bv = .slice (some ⟨g5, 0, none⟩) m c5 ∧ Iow wz b1 (.slice (some ⟨g1, 0, none⟩) m c1) (outs f m) ∧
    Iow wz b2 (.slice (some ⟨g5, 0, none⟩) m c5) (outs (fun i => (lsf2 f k (m - k) ++ lsf2 f 0 k).getD i (0, 0)) m) ∧ Below wc.heap.size wc wz
theorem Iow.at2 {w : World} {base g c n : Nat} {l : List (Int × Int)} (h : Iow w base (.slice (some ⟨g, 0, none⟩) n c) l) (i : Nat) (hi : i < n) :
    w.cell? ⟨g, i * 2, none⟩ = some (.int .i64 (l.getD i (0, 0)).1) ∧ w.cell? ⟨g, i * 2 + 1, none⟩ = some (.int .i64 (l.getD i (0, 0)).2) := by
  obtain ⟨g', off, e, _, hc⟩ := h.it.2.cell (by omega)
  injection e with e; injection e with e1 e2; subst e1 e2
  simpa using hc i hi
theorem keys_perm (f : Nat → Int × Int) (k m : Nat) (h : k ≤ m) : ((List.range m).map fun i => (f i).1).Perm ((List.range m).map fun i => (((lsf2 f k (m - k) ++ lsf2 f 0 k).getD i (0, 0)).1)) := by
  have e1 : (List.range m).map (fun i => (f i).1) = (lsf2 f 0 k ++ lsf2 f k (m - k)).map (·.1) := by
    apply List.ext_getElem
    · simp [lsf2]; omega
    · intro i h1 h2
      simp at h1
      simp only [List.getElem_map, List.getElem_range]
      by_cases hi : i < k
      · rw [List.getElem_append_left (by simp [lsf2]; omega)]; simp [lsf2]
      · rw [List.getElem_append_right (by simp [lsf2]; omega)]; simp [lsf2, show i - k + k = i by omega]
  have e2 : (List.range m).map (fun i => (((lsf2 f k (m - k) ++ lsf2 f 0 k).getD i (0, 0)).1)) = (lsf2 f k (m - k) ++ lsf2 f 0 k).map (·.1) := by
    apply List.ext_getElem
    · simp [lsf2]; omega
    · intro i h1 h2
      simp at h2
      simp only [List.getElem_map, List.getElem_range]
      rw [List.getD_eq_getElem?_getD, List.getElem?_eq_getElem (by simp; omega)]; rfl
  rw [e1, e2]
  exact (List.perm_append_comm (l₁ := lsf2 f 0 k) (l₂ := lsf2 f k (m - k))).map _

/-- The list that is looked at. -/
def Looked (w : World) (f : Nat → Int × Int) (xv : Value) (wc : World) : Prop := ∃ (m : Nat) (A : Option Addr) (c : Nat), m ≤ 300 ∧ xv = .slice A m c ∧ It w.heap.size wc A m c f ∧ Below w.heap.size w wc

set_option maxRecDepth 100000 in
set_option maxHeartbeats 4000000 in
theorem heapKeys_walk (A : Option Addr) (len cap : Nat) (f : Nat → Int × Int) (r : Nat) (hr : r ≤ 65535) (w : World) (h : It w.heap.size w A len cap f) (_ : True) :
    Calls Try.prog 9 #[.slice A len cap, .int .u16 (r : Int)] w fun e w' => e = .returned (.bool true) ∧ Below w.heap.size w w' := by
  have hle := h.le
  have hmax := h.max
  unfold maxLen at hmax
  have HI := Lib.hid h
  clear h
  go_enter Try.func9, Try.ntmps9
  go_wp2_with fail
  refine (shown_any _).mono ?_
  rintro e w1 ⟨rfl, hb1⟩
  have HB1 := Lib.hid hb1
  clear hb1
  go_upto_region 2 with (fail)
  go_cut [6] (Looked w f)
  case first =>
    cases A with
    | none =>
      obtain rfl : cap = 0 := HI.out.nil rfl
      obtain rfl : len = 0 := by omega
      go_wp2
      go_meet
      exact ⟨0, none, 0, by omega, rfl, HI.out.below HB1.out, HB1.out⟩
    | some ad =>
      by_cases hl : (len : Int) ≤ 300
      · go_wp2
        go_meet
        exact ⟨len, some ad, cap, by omega, rfl, HI.out.below HB1.out, HB1.out⟩
      · have hl3 : (300 : Int) ≤ (cap : Int) := by omega
        go_wp2
        go_meet
        exact ⟨300, some ad, cap, by omega, rfl, (HI.out.take (by omega)).below HB1.out, HB1.out⟩
  case rest =>
    obtain ⟨m, A1, c1, hm, rfl, hit, hb⟩ := hcut
    have HIT := Lib.hid hit
    have HB := Lib.hid hb
    have hle1 := hit.le
    have hmax1 := hit.max
    unfold maxLen at hmax1
    clear hit hb HI HB1 hle hmax
    go_upto_if 19 with (fail)
    go_cut [7] (fun kv wx => ∃ k : Nat, kv = .int .i64 (k : Int) ∧ (k < m ∨ k = 0) ∧ k ≤ m ∧ wx = wc)
    case first =>
      by_cases hm0 : (0 : Int) < (m : Int)
      · go_wp2
        go_meet
        have hpos : 0 < m := by omega
        exact ⟨r % m, by simp, .inl (Nat.mod_lt _ hpos), Nat.le_of_lt (Nat.mod_lt _ hpos), rfl⟩
      · go_wp2
        go_meet
        exact ⟨0, rfl, .inr rfl, Nat.zero_le _, rfl⟩
    case rest =>
      obtain ⟨k, rfl, hk, hkm, rfl⟩ := hcut
      have HX : Hid (∀ W, Below wc.heap.size wc W → It W.heap.size W A1 m c1 f) := Lib.hid (fun W hW => ((HIT.out.raise HB.out.size).below hW).raise hW.size)
      go_upto_region 6 with (fail)
      go_cut [8, 9] (KeysMid f k m wc)
      case first =>
        cases A1 with
        | none =>
          have h0 := HIT.out.nil rfl
          obtain rfl : c1 = 0 := h0
          obtain rfl : m = 0 := by omega
          obtain rfl : k = 0 := by omega
          have HLN : Hid ((([] : List (Int × Int)) ++ [] ++ []).length = 0) := Lib.hid rfl
          go_region_held3 (fun _ => True) (trivial) ((first | (have _k := HO4; go_simp; go_at_call 21; refine (sort_own v4 _ w4 _ HO4.out (by have := HLN.out; omega)).mono ?_; rintro e w5 ⟨g5, cc5, rfl, ho5, hb5⟩; have HC5 := Lib.hid (cur_trans HC4.out hb5); have HY5 := Lib.hid (HY4.out.below hb5); have HZ5 := Lib.hid ho5; clear ho5 hb5) | (have _k := HO3; refine step_app_items (by rfl) _ _ (by rfl) wc.heap.size v3 ([] ++ []) (by rfl) HO3.out _ _ _ f [] (by rfl) (It.zero (by simp) (by unfold maxLen; omega)) rfl (fun i hi => by omega) (by simp) HC3.out.size ?_; intro v4 w4 h4 hb4 hg4 _; have HO4 := Lib.hid h4; have HC4 := Lib.hid (HC3.out.trans hb4); have HY4 := Lib.hid (show Iow w4 _ _ _ from World.ownsRow.kept HY3.out hg4 (.inr HNE3.out)); clear h4 hb4 hg4) | ((fail_if_success have _k := HC2); go_simp; go_at_call 21; refine (sort_any none 0 0 f _ (HX.out _ (by first | exact Below.refl _ _ | exact (Below.refl _ _).drew | exact (Below.refl _ wc).alloc (Nat.le_refl _) _ | exact ((Below.refl _ wc).alloc (Nat.le_refl _) _).drew)) (by omega)).mono ?_; rintro e w2 ⟨g1, cc1, rfl, ho1, hb1⟩; have HC2 := Lib.hid (cur_trans (a := wc) (by first | exact Below.refl _ _ | exact (Below.refl _ _).drew | exact (Below.refl _ wc).alloc (Nat.le_refl _) _ | exact ((Below.refl _ wc).alloc (Nat.le_refl _) _).drew) hb1); have HY1 := Lib.hid ho1; (first | (have HE1 := Lib.hid ((Iow.empty wc wc.heap.size (Nat.le_refl _)).below hb1)) | (have HE1 := Lib.hid ((Iow.empty wc wc.heap.size (Nat.le_refl _)).below (un_drew hb1))) | skip); clear ho1 hb1) | ((fail_if_success have _k := HO3); have _k := HE1; refine step_app_items (by rfl) _ _ (by rfl) wc.heap.size _ [] (by rfl) HE1.out _ _ _ f [] (by rfl) (It.zero (by simp) (by unfold maxLen; omega)) rfl (fun i hi => by omega) (by simp only [List.length_nil]; omega) (by first | exact HC2.out.size | exact (HC2.out.alloc HC2.out.size _).size) ?_; intro v3 w3 h3 hb3 hg3 hat3; have hne3 : Value.ownBlock (.slice (some ⟨g1, 0, none⟩) 0 cc1) ≠ some (wc.heap.size) := (by intro e; have hlt1 := HY1.out.lt g1 rfl; simp [Value.ownBlock] at e hlt1; omega); (first | (have HY3 := Lib.hid (show Iow w3 _ _ _ from World.ownsRow.kept HY1.out hg3 (.inr hne3))) | (have HY3 := Lib.hid (show Iow w3 _ _ _ from World.ownsRow.kept (HY1.out.more _) hg3 (.inr hne3)))); have HNE3 : Hid (Value.ownBlock (.slice (some ⟨g1, 0, none⟩) 0 cc1) ≠ v3.ownBlock) := Lib.hid (by intro e; rcases hat3 with q | q; (exact hne3 (e.trans q)); (have hlt1 := HY1.out.lt g1 rfl; rw [q] at e; simp [Value.ownBlock] at e hlt1; omega)); have HO3 := Lib.hid h3; (first | (have HC3 := Lib.hid (HC2.out.trans hb3)) | (have HC3 := Lib.hid ((HC2.out.alloc HC2.out.size _).trans hb3))); clear h3 hb3 hg3 hat3 hne3) | ((fail_if_success have _k := HO3); have _k := HC2; refine step_app_items (by rfl) _ _ (by rfl) wc.heap.size _ [] (by rfl) (Iow.empty _ _ HC2.out.size) _ _ _ f [] (by rfl) (It.zero (by simp) (by unfold maxLen; omega)) rfl (fun i hi => by omega) (by simp only [List.length_nil]; omega) (by first | exact HC2.out.size | exact (HC2.out.alloc HC2.out.size _).size) ?_; intro v3 w3 h3 hb3 hg3 hat3; have hne3 : Value.ownBlock (.slice (some ⟨g1, 0, none⟩) 0 cc1) ≠ some (w2.heap.size) := (by intro e; have hlt1 := HY1.out.lt g1 rfl; simp [Value.ownBlock] at e hlt1; omega); (first | (have HY3 := Lib.hid (show Iow w3 _ _ _ from World.ownsRow.kept HY1.out hg3 (.inr hne3))) | (have HY3 := Lib.hid (show Iow w3 _ _ _ from World.ownsRow.kept (HY1.out.more _) hg3 (.inr hne3)))); have HNE3 : Hid (Value.ownBlock (.slice (some ⟨g1, 0, none⟩) 0 cc1) ≠ v3.ownBlock) := Lib.hid (by intro e; rcases hat3 with q | q; (exact hne3 (e.trans q)); (have hlt1 := HY1.out.lt g1 rfl; rw [q] at e; simp [Value.ownBlock] at e hlt1; omega)); have HO3 := Lib.hid h3; (first | (have HC3 := Lib.hid (HC2.out.trans hb3)) | (have HC3 := Lib.hid ((HC2.out.alloc HC2.out.size _).trans hb3))); clear h3 hb3 hg3 hat3 hne3) | fail))
          all_goals (go_wp2_with fail; go_meet; exact ⟨g1, cc1, g5, cc5, _, _, rfl, rfl, HY5.out, HZ5.out, HC5.out⟩)
        | some ad =>
          by_cases hm0 : m = 0
          · subst hm0
            obtain rfl : k = 0 := by omega
            have HLN : Hid ((([] : List (Int × Int)) ++ [] ++ []).length = 0) := Lib.hid rfl
            obtain ⟨g, off, sp⟩ := ad
            by_cases hc0 : c1 = 0
            · subst hc0
              go_region_held3 (fun _ => True) (trivial) ((first | (have _k := HO4; go_simp; go_at_call 21; refine (sort_own v4 _ w4 _ HO4.out (by have := HLN.out; omega)).mono ?_; rintro e w5 ⟨g5, cc5, rfl, ho5, hb5⟩; have HC5 := Lib.hid (cur_trans HC4.out hb5); have HY5 := Lib.hid (HY4.out.below hb5); have HZ5 := Lib.hid ho5; clear ho5 hb5) | (have _k := HO3; refine step_app_items (by rfl) _ _ (by rfl) wc.heap.size v3 ([] ++ []) (by rfl) HO3.out _ _ _ f [] (by rfl) (It.zero (by simp) (by unfold maxLen; omega)) rfl (fun i hi => by omega) (by simp) HC3.out.size ?_; intro v4 w4 h4 hb4 hg4 _; have HO4 := Lib.hid h4; have HC4 := Lib.hid (HC3.out.trans hb4); have HY4 := Lib.hid (show Iow w4 _ _ _ from World.ownsRow.kept HY3.out hg4 (.inr HNE3.out)); clear h4 hb4 hg4) | ((fail_if_success have _k := HC2); go_simp; go_at_call 21; refine (sort_any (some ⟨g, off, sp⟩) 0 0 f _ (HX.out _ (by first | exact Below.refl _ _ | exact (Below.refl _ _).drew | exact (Below.refl _ wc).alloc (Nat.le_refl _) _ | exact ((Below.refl _ wc).alloc (Nat.le_refl _) _).drew)) (by omega)).mono ?_; rintro e w2 ⟨g1, cc1, rfl, ho1, hb1⟩; have HC2 := Lib.hid (cur_trans (a := wc) (by first | exact Below.refl _ _ | exact (Below.refl _ _).drew | exact (Below.refl _ wc).alloc (Nat.le_refl _) _ | exact ((Below.refl _ wc).alloc (Nat.le_refl _) _).drew) hb1); have HY1 := Lib.hid ho1; (first | (have HE1 := Lib.hid ((Iow.empty wc wc.heap.size (Nat.le_refl _)).below hb1)) | (have HE1 := Lib.hid ((Iow.empty wc wc.heap.size (Nat.le_refl _)).below (un_drew hb1))) | skip); clear ho1 hb1) | ((fail_if_success have _k := HO3); have _k := HE1; refine step_app_items (by rfl) _ _ (by rfl) wc.heap.size _ [] (by rfl) HE1.out _ _ _ f [] (by rfl) (It.zero (by simp) (by unfold maxLen; omega)) rfl (fun i hi => by omega) (by simp only [List.length_nil]; omega) (by first | exact HC2.out.size | exact (HC2.out.alloc HC2.out.size _).size) ?_; intro v3 w3 h3 hb3 hg3 hat3; have hne3 : Value.ownBlock (.slice (some ⟨g1, 0, none⟩) 0 cc1) ≠ some (wc.heap.size) := (by intro e; have hlt1 := HY1.out.lt g1 rfl; simp [Value.ownBlock] at e hlt1; omega); (first | (have HY3 := Lib.hid (show Iow w3 _ _ _ from World.ownsRow.kept HY1.out hg3 (.inr hne3))) | (have HY3 := Lib.hid (show Iow w3 _ _ _ from World.ownsRow.kept (HY1.out.more _) hg3 (.inr hne3)))); have HNE3 : Hid (Value.ownBlock (.slice (some ⟨g1, 0, none⟩) 0 cc1) ≠ v3.ownBlock) := Lib.hid (by intro e; rcases hat3 with q | q; (exact hne3 (e.trans q)); (have hlt1 := HY1.out.lt g1 rfl; rw [q] at e; simp [Value.ownBlock] at e hlt1; omega)); have HO3 := Lib.hid h3; (first | (have HC3 := Lib.hid (HC2.out.trans hb3)) | (have HC3 := Lib.hid ((HC2.out.alloc HC2.out.size _).trans hb3))); clear h3 hb3 hg3 hat3 hne3) | ((fail_if_success have _k := HO3); have _k := HC2; refine step_app_items (by rfl) _ _ (by rfl) wc.heap.size _ [] (by rfl) (Iow.empty _ _ HC2.out.size) _ _ _ f [] (by rfl) (It.zero (by simp) (by unfold maxLen; omega)) rfl (fun i hi => by omega) (by simp only [List.length_nil]; omega) (by first | exact HC2.out.size | exact (HC2.out.alloc HC2.out.size _).size) ?_; intro v3 w3 h3 hb3 hg3 hat3; have hne3 : Value.ownBlock (.slice (some ⟨g1, 0, none⟩) 0 cc1) ≠ some (w2.heap.size) := (by intro e; have hlt1 := HY1.out.lt g1 rfl; simp [Value.ownBlock] at e hlt1; omega); (first | (have HY3 := Lib.hid (show Iow w3 _ _ _ from World.ownsRow.kept HY1.out hg3 (.inr hne3))) | (have HY3 := Lib.hid (show Iow w3 _ _ _ from World.ownsRow.kept (HY1.out.more _) hg3 (.inr hne3)))); have HNE3 : Hid (Value.ownBlock (.slice (some ⟨g1, 0, none⟩) 0 cc1) ≠ v3.ownBlock) := Lib.hid (by intro e; rcases hat3 with q | q; (exact hne3 (e.trans q)); (have hlt1 := HY1.out.lt g1 rfl; rw [q] at e; simp [Value.ownBlock] at e hlt1; omega)); have HO3 := Lib.hid h3; (first | (have HC3 := Lib.hid (HC2.out.trans hb3)) | (have HC3 := Lib.hid ((HC2.out.alloc HC2.out.size _).trans hb3))); clear h3 hb3 hg3 hat3 hne3) | fail))
              all_goals (go_wp2_with fail; go_meet; exact ⟨g1, cc1, g5, cc5, _, _, rfl, rfl, HY5.out, HZ5.out, HC5.out⟩)
            · have hc0' : 0 < c1 := by omega
              have hc0'' : ¬ 0 = c1 := by omega
              go_region_held3 (fun _ => True) (trivial) ((first | (have _k := HO4; go_simp; go_at_call 21; refine (sort_own v4 _ w4 _ HO4.out (by have := HLN.out; omega)).mono ?_; rintro e w5 ⟨g5, cc5, rfl, ho5, hb5⟩; have HC5 := Lib.hid (cur_trans HC4.out hb5); have HY5 := Lib.hid (HY4.out.below hb5); have HZ5 := Lib.hid ho5; clear ho5 hb5) | (have _k := HO3; refine step_app_items (by rfl) _ _ (by rfl) wc.heap.size v3 ([] ++ []) (by rfl) HO3.out _ _ _ f [] (by rfl) (It.zero (by simp) (by unfold maxLen; omega)) rfl (fun i hi => by omega) (by simp) HC3.out.size ?_; intro v4 w4 h4 hb4 hg4 _; have HO4 := Lib.hid h4; have HC4 := Lib.hid (HC3.out.trans hb4); have HY4 := Lib.hid (show Iow w4 _ _ _ from World.ownsRow.kept HY3.out hg4 (.inr HNE3.out)); clear h4 hb4 hg4) | ((fail_if_success have _k := HC2); go_simp; go_at_call 21; refine (sort_any (some ⟨g, off, sp⟩) 0 c1 f _ (HX.out _ (by first | exact Below.refl _ _ | exact (Below.refl _ _).drew | exact (Below.refl _ wc).alloc (Nat.le_refl _) _ | exact ((Below.refl _ wc).alloc (Nat.le_refl _) _).drew)) (by omega)).mono ?_; rintro e w2 ⟨g1, cc1, rfl, ho1, hb1⟩; have HC2 := Lib.hid (cur_trans (a := wc) (by first | exact Below.refl _ _ | exact (Below.refl _ _).drew | exact (Below.refl _ wc).alloc (Nat.le_refl _) _ | exact ((Below.refl _ wc).alloc (Nat.le_refl _) _).drew) hb1); have HY1 := Lib.hid ho1; (first | (have HE1 := Lib.hid ((Iow.empty wc wc.heap.size (Nat.le_refl _)).below hb1)) | (have HE1 := Lib.hid ((Iow.empty wc wc.heap.size (Nat.le_refl _)).below (un_drew hb1))) | skip); clear ho1 hb1) | ((fail_if_success have _k := HO3); have _k := HE1; refine step_app_items (by rfl) _ _ (by rfl) wc.heap.size _ [] (by rfl) HE1.out _ _ _ f [] (by rfl) (It.zero (by simp) (by unfold maxLen; omega)) rfl (fun i hi => by omega) (by simp only [List.length_nil]; omega) (by first | exact HC2.out.size | exact (HC2.out.alloc HC2.out.size _).size) ?_; intro v3 w3 h3 hb3 hg3 hat3; have hne3 : Value.ownBlock (.slice (some ⟨g1, 0, none⟩) 0 cc1) ≠ some (wc.heap.size) := (by intro e; have hlt1 := HY1.out.lt g1 rfl; simp [Value.ownBlock] at e hlt1; omega); (first | (have HY3 := Lib.hid (show Iow w3 _ _ _ from World.ownsRow.kept HY1.out hg3 (.inr hne3))) | (have HY3 := Lib.hid (show Iow w3 _ _ _ from World.ownsRow.kept (HY1.out.more _) hg3 (.inr hne3)))); have HNE3 : Hid (Value.ownBlock (.slice (some ⟨g1, 0, none⟩) 0 cc1) ≠ v3.ownBlock) := Lib.hid (by intro e; rcases hat3 with q | q; (exact hne3 (e.trans q)); (have hlt1 := HY1.out.lt g1 rfl; rw [q] at e; simp [Value.ownBlock] at e hlt1; omega)); have HO3 := Lib.hid h3; (first | (have HC3 := Lib.hid (HC2.out.trans hb3)) | (have HC3 := Lib.hid ((HC2.out.alloc HC2.out.size _).trans hb3))); clear h3 hb3 hg3 hat3 hne3) | ((fail_if_success have _k := HO3); have _k := HC2; refine step_app_items (by rfl) _ _ (by rfl) wc.heap.size _ [] (by rfl) (Iow.empty _ _ HC2.out.size) _ _ _ f [] (by rfl) (It.zero (by simp) (by unfold maxLen; omega)) rfl (fun i hi => by omega) (by simp only [List.length_nil]; omega) (by first | exact HC2.out.size | exact (HC2.out.alloc HC2.out.size _).size) ?_; intro v3 w3 h3 hb3 hg3 hat3; have hne3 : Value.ownBlock (.slice (some ⟨g1, 0, none⟩) 0 cc1) ≠ some (w2.heap.size) := (by intro e; have hlt1 := HY1.out.lt g1 rfl; simp [Value.ownBlock] at e hlt1; omega); (first | (have HY3 := Lib.hid (show Iow w3 _ _ _ from World.ownsRow.kept HY1.out hg3 (.inr hne3))) | (have HY3 := Lib.hid (show Iow w3 _ _ _ from World.ownsRow.kept (HY1.out.more _) hg3 (.inr hne3)))); have HNE3 : Hid (Value.ownBlock (.slice (some ⟨g1, 0, none⟩) 0 cc1) ≠ v3.ownBlock) := Lib.hid (by intro e; rcases hat3 with q | q; (exact hne3 (e.trans q)); (have hlt1 := HY1.out.lt g1 rfl; rw [q] at e; simp [Value.ownBlock] at e hlt1; omega)); have HO3 := Lib.hid h3; (first | (have HC3 := Lib.hid (HC2.out.trans hb3)) | (have HC3 := Lib.hid ((HC2.out.alloc HC2.out.size _).trans hb3))); clear h3 hb3 hg3 hat3 hne3) | fail))
              all_goals (go_wp2_with fail; go_meet; exact ⟨g1, cc1, g5, cc5, _, _, rfl, rfl, HY5.out, HZ5.out, HC5.out⟩)
          · obtain ⟨g, off, he, hg, _⟩ := HIT.out.cell (by omega)
            injection he with he
            subst he
            have hkI : (k : Int) ≤ (m : Int) := by omega
            have hkc : k < c1 := by omega
            have hkc2 : k ≤ c1 := by omega
            have hck : ¬ c1 = k := by omega
            have HLN : Hid (([] ++ lsf2 f k (m - k) ++ lsf2 f 0 k).length = m) := Lib.hid (by simp [lsf2]; omega)
            go_region_held3 (fun _ => True) (trivial) ((first | (have _k := HO4; go_simp; go_at_call 21; refine (sort_own v4 _ w4 _ HO4.out (by have := HLN.out; omega)).mono ?_; rintro e w5 ⟨g5, cc5, rfl, ho5, hb5⟩; have HC5 := Lib.hid (cur_trans HC4.out hb5); have HY5 := Lib.hid (HY4.out.below hb5); have HZ5 := Lib.hid ho5; clear ho5 hb5) | (have _k := HO3; refine step_app_items (by rfl) _ _ (by rfl) wc.heap.size v3 ([] ++ lsf2 f k (m - k)) (by rfl) HO3.out (some ⟨g, off, none⟩) k c1 f (lsf2 f 0 k) (by rfl) ((HX.out _ HC3.out).take hkm) (by simp [lsf2]) (fun i hi => lsf2_get f 0 _ i hi) (by simp only [List.nil_append, lsf2, List.length_map, List.length_range]; omega) HC3.out.size ?_; intro v4 w4 h4 hb4 hg4 _; have HO4 := Lib.hid h4; have HC4 := Lib.hid (HC3.out.trans hb4); have HY4 := Lib.hid (show Iow w4 _ _ _ from World.ownsRow.kept HY3.out hg4 (.inr HNE3.out)); clear h4 hb4 hg4) | ((fail_if_success have _k := HC2); go_simp; go_at_call 21; refine (sort_any (some ⟨g, off, none⟩) m c1 f _ (HX.out _ (by first | exact Below.refl _ _ | exact (Below.refl _ _).drew | exact (Below.refl _ wc).alloc (Nat.le_refl _) _ | exact ((Below.refl _ wc).alloc (Nat.le_refl _) _).drew)) (by omega)).mono ?_; rintro e w2 ⟨g1, cc1, rfl, ho1, hb1⟩; have HC2 := Lib.hid (cur_trans (a := wc) (by first | exact Below.refl _ _ | exact (Below.refl _ _).drew | exact (Below.refl _ wc).alloc (Nat.le_refl _) _ | exact ((Below.refl _ wc).alloc (Nat.le_refl _) _).drew) hb1); have HY1 := Lib.hid ho1; (first | (have HE1 := Lib.hid ((Iow.empty wc wc.heap.size (Nat.le_refl _)).below hb1)) | (have HE1 := Lib.hid ((Iow.empty wc wc.heap.size (Nat.le_refl _)).below (un_drew hb1))) | skip); clear ho1 hb1) | ((fail_if_success have _k := HO3); have _k := HE1; refine step_app_items (by rfl) _ _ (by rfl) wc.heap.size _ [] (by rfl) HE1.out _ _ _ (fun i => f (i + k)) (lsf2 f k (m - k)) (by rfl) (by first | exact (HX.out _ HC2.out).drop hkm (.inl rfl) | exact (HX.out _ (HC2.out.alloc HC2.out.size _)).drop hkm (.inl rfl)) (by simp [lsf2]) (fun i hi => lsf2_get f k _ i hi) (by simp only [List.length_nil]; omega) (by first | exact HC2.out.size | exact (HC2.out.alloc HC2.out.size _).size) ?_; intro v3 w3 h3 hb3 hg3 hat3; have hne3 : Value.ownBlock (.slice (some ⟨g1, 0, none⟩) m cc1) ≠ some (wc.heap.size) := (by intro e; have hlt1 := HY1.out.lt g1 rfl; simp [Value.ownBlock] at e hlt1; omega); (first | (have HY3 := Lib.hid (show Iow w3 _ _ _ from World.ownsRow.kept HY1.out hg3 (.inr hne3))) | (have HY3 := Lib.hid (show Iow w3 _ _ _ from World.ownsRow.kept (HY1.out.more _) hg3 (.inr hne3)))); have HNE3 : Hid (Value.ownBlock (.slice (some ⟨g1, 0, none⟩) m cc1) ≠ v3.ownBlock) := Lib.hid (by intro e; rcases hat3 with q | q; (exact hne3 (e.trans q)); (have hlt1 := HY1.out.lt g1 rfl; rw [q] at e; simp [Value.ownBlock] at e hlt1; omega)); have HO3 := Lib.hid h3; (first | (have HC3 := Lib.hid (HC2.out.trans hb3)) | (have HC3 := Lib.hid ((HC2.out.alloc HC2.out.size _).trans hb3))); clear h3 hb3 hg3 hat3 hne3) | ((fail_if_success have _k := HO3); have _k := HC2; refine step_app_items (by rfl) _ _ (by rfl) wc.heap.size _ [] (by rfl) (Iow.empty _ _ HC2.out.size) _ _ _ (fun i => f (i + k)) (lsf2 f k (m - k)) (by rfl) (by first | exact (HX.out _ HC2.out).drop hkm (.inl rfl) | exact (HX.out _ (HC2.out.alloc HC2.out.size _)).drop hkm (.inl rfl)) (by simp [lsf2]) (fun i hi => lsf2_get f k _ i hi) (by simp only [List.length_nil]; omega) (by first | exact HC2.out.size | exact (HC2.out.alloc HC2.out.size _).size) ?_; intro v3 w3 h3 hb3 hg3 hat3; have hne3 : Value.ownBlock (.slice (some ⟨g1, 0, none⟩) m cc1) ≠ some (w2.heap.size) := (by intro e; have hlt1 := HY1.out.lt g1 rfl; simp [Value.ownBlock] at e hlt1; omega); (first | (have HY3 := Lib.hid (show Iow w3 _ _ _ from World.ownsRow.kept HY1.out hg3 (.inr hne3))) | (have HY3 := Lib.hid (show Iow w3 _ _ _ from World.ownsRow.kept (HY1.out.more _) hg3 (.inr hne3)))); have HNE3 : Hid (Value.ownBlock (.slice (some ⟨g1, 0, none⟩) m cc1) ≠ v3.ownBlock) := Lib.hid (by intro e; rcases hat3 with q | q; (exact hne3 (e.trans q)); (have hlt1 := HY1.out.lt g1 rfl; rw [q] at e; simp [Value.ownBlock] at e hlt1; omega)); have HO3 := Lib.hid h3; (first | (have HC3 := Lib.hid (HC2.out.trans hb3)) | (have HC3 := Lib.hid ((HC2.out.alloc HC2.out.size _).trans hb3))); clear h3 hb3 hg3 hat3 hne3) | fail))
            all_goals (go_wp2_with fail; go_meet; exact ⟨g1, cc1, g5, cc5, _, _, rfl, by simp [lsf2]; omega, HY5.out, (by have h := HZ5.out; rw [HLN.out] at h; simpa using h), HC5.out⟩)
      case rest =>
        obtain ⟨g1, cc1, g5, cc5, b1, b2, rfl, rfl, hy, hz, hB⟩ := hcut
        have HY := Lib.hid hy
        have HZ := Lib.hid hz
        have HBw := Lib.hid (HB.out.trans (hB.mono HB.out.size))
        have l1 := hy.it.2.le
        have l2 := hy.it.2.max
        have l3 := hz.it.2.le
        have l4 := hz.it.2.max
        unfold maxLen at l2 l4
        have hmm : ((m : Int) != (m : Int)) = false := by simp
        have HK : Hid (∀ i, i < m → ((outs f m).getD i (0, 0)).1 = ((outs (fun i => (lsf2 f k (m - k) ++ lsf2 f 0 k).getD i (0, 0)) m).getD i (0, 0)).1) := Lib.hid (outs_keys f _ m (keys_perm f k m hkm))
        clear hy hz hB HX HIT
        go_wp2
        go_loopw [51] (fun iv wq => ∃ i : Nat, i ≤ m ∧ iv = .int .i64 (i : Int) ∧ Below wc.heap.size wc wq) (fun iv _ => m - (intOf iv).toNat)
        case atStart => exact ⟨0, Nat.zero_le _, rfl, Below.refl _ _⟩
        case round =>
          obtain ⟨i, hi, rfl, hBq⟩ := hrel
          have HBq := Lib.hid hBq
          have hbase := HBw.out.size
          by_cases hlt : i < m
          · obtain ⟨y0, y1⟩ := (HY.out.below hBq).at2 i hlt
            obtain ⟨z0, z1⟩ := (HZ.out.below hBq).at2 i hlt
            rw [← HK.out i hlt] at z0
            have hiI : (i : Int) < (m : Int) := by omega
            generalize ((outs f m).getD i (0, 0)).1 = q at *
            clear y1 z1 hBq
            go_wp2
            go_quiet (fail)
            have HBe := Lib.hid (HBq.out.trans (below_drewN wc.heap.size wr nq))
            generalize wr.drewN nq = we at HBe ⊢
            clear HBq y0 z0
            go_wp2
            go_roundw
            case rel => exact ⟨i + 1, by omega, by go_num, HBe.out⟩
            case measure => simp [intOf]; omega
          · obtain rfl : m = i := by omega
            have HBe := Lib.hid (HBw.out.trans (hBq.mono hbase))
            clear hBq HBq
            go_wp2
            go_ret
            exact ⟨rfl, HBe.out⟩

end Go.Proofs.Ytihffgcahfladaa
