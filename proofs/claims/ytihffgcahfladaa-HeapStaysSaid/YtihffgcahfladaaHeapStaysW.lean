/-
  HeapStays: sorted items are those of the list, and items of one key stand as they stood.
-/
import Derived.Test.YtihffgcahfladaaHpW8
import Derived.Test.YtihffgcahfladaaHpR4
import Derived.Test.YtihffgcahfladaaHpPlain3
set_option linter.unusedVariables false
namespace Go.Proofs.Ytihffgcahfladaa
open Go.RowKit E

/-- The first so many of f. -/
def lsf (f : Nat → Int × Int) (m : Nat) : List (Int × Int) := (List.range m).map f
theorem lsf_length (f : Nat → Int × Int) (m : Nat) : (lsf f m).length = m := by simp [lsf]
theorem lsf_get (f : Nat → Int × Int) (m i : Nat) (h : i < m) : (lsf f m).getD i (0, 0) = f i := by simp [lsf, List.getD_eq_getElem?_getD, h]
/-- The first k items bear their places as values. -/
def lab (f : Nat → Int × Int) (k : Nat) : Nat → Int × Int := fun i => if i < k then ((f i).1, (i : Int)) else f i
theorem lab_next (f : Nat → Int × Int) (m k : Nat) (h : k < m) : lsf (lab f (k + 1)) m = (lsf (lab f k) m).set k ((f k).1, (k : Int)) := by
  apply List.ext_getElem
  · simp [lsf]
  · intro i h1 h2
    simp [lsf, lab] at h1 ⊢
    by_cases e : k = i
    · subst e; simp
    · rw [List.getElem_set_ne e]
      simp
      by_cases e2 : i < k
      · simp [lab, e2, show i < k + 1 by omega]
      · simp [lab, e2, show ¬ i < k + 1 by omega]

theorem pc_set : ∀ (l : List (Int × Int)) (i : Nat) (b : Int), pc (l.set i ((l.getD i (0, 0)).1, b)) = (pc l).set (i * 2 + 1) (.int .i64 b)
  | [], i, b => by simp [pc]
  | a :: l, 0, b => by simp [pc]
  | a :: l, i + 1, b => by
    have e1 : (i + 1) * 2 + 1 = i * 2 + 1 + 1 + 1 := by omega
    have := pc_set l i b
    rw [e1]
    simp [pc]
    simpa using this
theorem Iow.put {w : World} {base g c n : Nat} {l : List (Int × Int)} (h : Iow w base (.slice (some ⟨g, 0, none⟩) n c) l) (i : Nat) (b : Int) :
    Iow (w.setCell ⟨g, i * 2 + 1, none⟩ (.int .i64 b)) base (.slice (some ⟨g, 0, none⟩) n c) (l.set i ((l.getD i (0, 0)).1, b)) := by
  obtain ⟨rfl, _⟩ := h.it
  unfold Iow
  rw [List.length_set, pc_set]
  exact (World.ownsRow.stored h (i * 2 + 1) (.int .i64 b)).1
theorem Iow.shape {w : World} {base n c : Nat} {A : Option Addr} {l : List (Int × Int)} (h : Iow w base (.slice A n c) l) (hn : 0 < n) : ∃ g, A = some ⟨g, 0, none⟩ ∧ base ≤ g ∧ g < w.heap.size := by
  obtain ⟨hl, _⟩ := h.it
  rcases h.2 with ⟨_, q⟩ | ⟨g, c', cur, q, hg, hh, _⟩
  · omega
  · injection q with q; exact ⟨g, q, hg, lt_of_heap hh⟩

theorem Iow.frozen {w : World} {base g c n : Nat} {l : List (Int × Int)} (h : Iow w base (.slice (some ⟨g, 0, none⟩) n c) l) (j : Nat) : w.frozen? ⟨g, j, none⟩ = false := by
  obtain ⟨rfl, _⟩ := h.it
  exact World.ownsRow.frozenAt h j
theorem It.congr {B : Nat} {w : World} {A : Option Addr} {n cap : Nat} {f g : Nat → Int × Int} (h : It B w A n cap f) (e : ∀ i, i < n → f i = g i) : It B w A n cap g :=
  ⟨h.le, h.max, h.nil, fun hn => by
    obtain ⟨b, off, q, hg, hc⟩ := h.cell hn
    exact ⟨b, off, q, hg, fun j hj => by rw [← e j hj]; exact hc j hj⟩⟩
/-- A list's cells, at its block. -/
theorem Iow.cells {w : World} {base g c n : Nat} {l : List (Int × Int)} (h : Iow w base (.slice (some ⟨g, 0, none⟩) n c) l) (i : Nat) (hi : i < n) :
    w.cell? ⟨g, i * 2, none⟩ = some (.int .i64 (l.getD i (0, 0)).1) ∧ w.cell? ⟨g, i * 2 + 1, none⟩ = some (.int .i64 (l.getD i (0, 0)).2) := by
  obtain ⟨g', off, e, _, hc⟩ := h.it.2.cell (by omega)
  injection e with e; injection e with e1 e2; subst e1 e2
  simpa using hc i hi

/-- The copied list. -/
def Copied (w : World) (xv : Value) (wc : World) : Prop := ∃ (m : Nat) (A : Option Addr) (c : Nat) (f : Nat → Int × Int), m ≤ 500 ∧ xv = .slice A m c ∧ Iow wc w.heap.size (.slice A m c) (lsf f m) ∧ Below w.heap.size w wc

set_option maxRecDepth 100000 in
set_option maxHeartbeats 4000000 in
theorem heapStays_walk (A : Option Addr) (len cap : Nat) (f : Nat → Int × Int) (w : World) (h : It w.heap.size w A len cap f) (_ : True) :
    Calls Try.prog 6 #[.slice A len cap] w fun e w' => e = .returned (.bool true) ∧ Below w.heap.size w w' := by
  have hle := h.le
  have hmax := h.max
  unfold maxLen at hmax
  have HI := Lib.hid h
  clear h
  go_enter Try.func6, Try.ntmps6
  go_wp2_with fail
  refine (shown_any _).mono ?_
  rintro e w1 ⟨rfl, hb1⟩
  have HB1 := Lib.hid hb1
  clear hb1
  go_upto_region 2 with (fail)
  go_cut [4] (Copied w)
  case first =>
    have HE0 := Lib.hid (Iow.empty w1 w.heap.size HB1.out.size)
    have HBA := Lib.hid (HB1.out.alloc HB1.out.size (.cells #[] 32))
    have HIA := Lib.hid ((HI.out.below HBA.out).raise HBA.out.size)
    have fin : ∀ (m : Nat) (v1 : Value) (wB : World), m ≤ 500 → Iow wB w.heap.size v1 ([] ++ lsf f m) → Below w.heap.size (w1.alloc (.cells #[] 32)) wB → Copied w v1 wB := by
      intro m v1 wB hm ho hb
      rw [List.nil_append] at ho
      obtain ⟨A', n', c', rfl⟩ := ho.form
      obtain ⟨hn, _⟩ := ho.it
      rw [lsf_length] at hn
      subst hn
      exact ⟨_, A', c', f, hm, rfl, ho, HBA.out.trans hb⟩
    have HFIN := Lib.hid fin
    clear fin
    cases A with
    | none =>
      obtain rfl : cap = 0 := HI.out.nil rfl
      obtain rfl : len = 0 := by omega
      go_wp2_with (at_builtin; refine app_items rfl _ _ rfl w.heap.size _ [] rfl HE0.out _ _ _ f (lsf f 0) rfl HIA.out rfl (fun i hi => by omega) (by simp) HBA.out.size ?_; intro v1 wB o1 b1 _ _; have HO1 := Lib.hid o1; have HB2 := Lib.hid b1; clear o1 b1)
      go_meet
      exact HFIN.out 0 _ _ (by omega) HO1.out HB2.out
    | some ad =>
      by_cases hl : (len : Int) ≤ 500
      · go_wp2_with (at_builtin; refine app_items rfl _ _ rfl w.heap.size _ [] rfl HE0.out _ _ _ f (lsf f len) rfl HIA.out (lsf_length f len) (fun i hi => lsf_get f len i hi) (by simp only [List.length_nil]; omega) HBA.out.size ?_; intro v1 wB o1 b1 _ _; have HO1 := Lib.hid o1; have HB2 := Lib.hid b1; clear o1 b1)
        go_meet
        exact HFIN.out len _ _ (by omega) HO1.out HB2.out
      · have hl2 : 500 ≤ len := by omega
        have hl3 : (500 : Int) ≤ (cap : Int) := by omega
        go_wp2_with (at_builtin; refine app_items rfl _ _ rfl w.heap.size _ [] rfl HE0.out _ _ _ f (lsf f 500) rfl (HIA.out.take hl2) (lsf_length f 500) (fun i hi => lsf_get f 500 i hi) (by simp only [List.length_nil]; omega) HBA.out.size ?_; intro v1 wB o1 b1 _ _; have HO1 := Lib.hid o1; have HB2 := Lib.hid b1; clear o1 b1)
        go_meet
        exact HFIN.out 500 _ _ (by omega) HO1.out HB2.out
  case rest =>
    obtain ⟨m, A1, c1, f1, hm, rfl, ho, hb⟩ := hcut
    have HO := Lib.hid ho
    have HB := Lib.hid hb
    have hit := ho.it.2
    have hle1 := hit.le
    have hmax1 := hit.max
    unfold maxLen at hmax1
    clear ho hb hit HI hle hmax
    have HOO : Hid (Iow wc w.heap.size (.slice A1 m c1) (lsf (lab f1 0) m)) := Lib.hid (by
      have : lab f1 0 = f1 := by funext i; simp [lab]
      rw [this]; exact HO.out)
    go_wp2
    go_loopw [19] (fun iv wr => ∃ k : Nat, k ≤ m ∧ iv = .int .i64 (k : Int) ∧ Iow wr w.heap.size (.slice A1 m c1) (lsf (lab f1 k) m) ∧ Below w.heap.size w wr) (fun iv _ => m - (intOf iv).toNat)
    case atStart => exact ⟨0, Nat.zero_le _, rfl, HOO.out, HB.out⟩
    case round =>
      obtain ⟨k, hk, rfl, hO, hB⟩ := hrel
      have HOk := Lib.hid hO
      have HBk := Lib.hid hB
      have hB0 := hB
      clear hB HOO HO HB
      by_cases hlt : k < m
      · obtain ⟨g, rfl, hg1, hg2⟩ := hO.shape (by omega)
        have hl2 : k * 2 + 1 < (lsf (lab f1 k) m).length * 2 := by rw [lsf_length]; omega
        have d1 : wr.cell? ⟨g, k * 2 + 1, none⟩ = some (.int .i64 (lab f1 k k).2) := by
          have := (hO.cells k hlt).2
          rw [lsf_get _ _ _ hlt] at this
          exact this
        have e1 : wr.frozen? ⟨g, k * 2 + 1, none⟩ = false := hO.frozen _
        have hkI : (k : Int) < (m : Int) := by omega
        have HP : Hid (Iow (wr.setCell ⟨g, k * 2 + 1, none⟩ (.int .i64 (k : Int))) w.heap.size (.slice (some ⟨g, 0, none⟩) m c1) (lsf (lab f1 (k + 1)) m)) := Lib.hid (by
          rw [lab_next f1 m k hlt]
          have := hO.put k (k : Int)
          rw [lsf_get _ _ _ hlt] at this
          simpa [lab] using this)
        have HP2 := Lib.hid (HBk.out.setCell (p := ⟨g, k * 2 + 1, none⟩) hg1 (.int .i64 (k : Int)))
        clear hO hl2
        go_wp2
        go_roundw
        case rel => exact ⟨k + 1, by omega, by go_num, HP.out, HP2.out⟩
        case measure => simp [intOf]; omega
      · obtain rfl : m = k := by omega
        have hsz := hB0.size
        obtain ⟨F, hF⟩ : ∃ F, F = lab f1 m := ⟨_, rfl⟩
        have HFv : Hid (∀ i, i < m → (F i).2 = (i : Int)) := Lib.hid (fun i hi => by rw [hF]; simp [lab, hi])
        have hIt : It wr.heap.size wr A1 m c1 F := hO.it.2.congr (fun i hi => by rw [lsf_get _ _ _ hi, hF])
        have HIt := Lib.hid hIt
        clear hF hO HOk hIt hlt hk hB0
        go_wp2_with fail
        refine (sort_any A1 m c1 F wr HIt.out (by omega)).mono ?_
        rintro e w5 ⟨gy, cy, rfl, ho5, hb5⟩
        have HO5 := Lib.hid ho5
        have HB5 := Lib.hid (HBk.out.trans (hb5.mono hsz))
        have HI5 := Lib.hid (HIt.out.below hb5)
        have hs5 := hb5.size
        have hcy := ho5.it.2.le
        have hmy := ho5.it.2.max
        unfold maxLen at hmy
        have hmm : ((m : Int) != (m : Int)) = false := by simp
        clear ho5 hb5 HIt
        go_wp2
        go_loopw [37] (fun iv wz => ∃ i : Nat, i ≤ m ∧ iv = .int .i64 (i : Int) ∧ Below w5.heap.size w5 wz) (fun iv _ => m - (intOf iv).toNat)
        case atStart => exact ⟨0, Nat.zero_le _, rfl, Below.refl _ _⟩
        case round =>
          obtain ⟨i, hi, rfl, hBz⟩ := hrel
          have HBz := Lib.hid hBz
          by_cases hlt : i < m
          · obtain ⟨gx, off, rfl, hgx, hcx⟩ := ((HI5.out.raise hs5).below hBz).cell (by omega)
            have hoz := HO5.out.below hBz
            obtain ⟨j, hj, hoj, hvj⟩ := (outs_places F m HFv.out i hlt).1
            obtain ⟨y0, y1⟩ := hoz.cells i hlt
            obtain ⟨x0, x1⟩ := hcx j hj
            rw [← hoj] at x0 x1
            rw [hvj] at y1 x1
            have hjI : (j : Int) < (m : Int) := by omega
            have hjc : j < c1 := by omega
            have hiI : (i : Int) < (m : Int) := by omega
            have HPR : Hid (∀ i', i = i' + 1 → ∃ p1 p2, wr.cell? ⟨gy, i' * 2, none⟩ = some (.int .i64 p1) ∧ wr.cell? ⟨gy, i' * 2 + 1, none⟩ = some (.int .i64 p2) ∧ (p1 < ((outs F m).getD i (0, 0)).1 ∨ (p1 = ((outs F m).getD i (0, 0)).1 ∧ p2 < (j : Int)))) := Lib.hid (by
              rintro i' rfl
              obtain ⟨_, hn⟩ := outs_places F m HFv.out i' (by omega)
              obtain ⟨z0, z1⟩ := hoz.cells i' (by omega)
              refine ⟨_, _, z0, z1, ?_⟩
              rw [← hvj]; exact hn (by omega))
            generalize ((outs F m).getD i (0, 0)).1 = q at *
            clear hcx hoz hoj hvj hBz
            have g1 : decide ((j : Int) < 0) = false := by simp
            have g2 : decide ((m : Int) ≤ (j : Int)) = false := by simp; omega
            go_wp2
            go_quiet (fail)
            have hBq := HBz.out.trans (below_drewN w5.heap.size wr nq)
            have hYq := HO5.out.below hBq
            obtain ⟨y0', y1'⟩ := hYq.cells i hlt
            have HPQ : Hid (∀ i', i = i' + 1 → ∃ p1 p2, (wr.drewN nq).cell? ⟨gy, i' * 2, none⟩ = some (.int .i64 p1) ∧ (wr.drewN nq).cell? ⟨gy, i' * 2 + 1, none⟩ = some (.int .i64 p2) ∧ (p1 < q ∨ (p1 = q ∧ p2 < (j : Int)))) := Lib.hid (fun i' h => HPR.out i' h)
            have z0 : (wr.drewN nq).cell? ⟨gy, i * 2, none⟩ = some (.int .i64 q) := y0
            have z1 : (wr.drewN nq).cell? ⟨gy, i * 2 + 1, none⟩ = some (.int .i64 (j : Int)) := y1
            have HBq := Lib.hid hBq
            clear x0 x1 y0 y1 y0' y1' HPR hBq hYq HBz
            generalize wr.drewN nq = wq at *
            by_cases h0 : i = 0
            · subst h0
              have g3 : decide ((0 : Int) < ((0 : Nat) : Int)) = false := by simp
              go_wp2
              go_quiet (fail)
              have HBe := Lib.hid (HBq.out.trans (below_drewN w5.heap.size wq nq))
              clear HBq HPQ z0 z1
              generalize wq.drewN nq = we at *
              go_wp2
              go_roundw
              case rel => exact ⟨0 + 1, by omega, by go_num, HBe.out⟩
              case measure => simp [intOf]; omega
            · obtain ⟨i', hi'⟩ : ∃ i', i = i' + 1 := ⟨i - 1, by omega⟩
              obtain ⟨p1, p2, w0, w1', hcase⟩ := HPQ.out i' hi'
              have hii : (i : Int) - 1 = (i' : Int) := by omega
              have hi'I : (i' : Int) < (m : Int) := by omega
              have g3 : decide ((0 : Int) < (i : Int)) = true := by simp; omega
              have hi0 : (0 : Int) < (i : Int) := by omega
              have h0n : 0 < i := by omega
              clear hi' h0
              rcases hcase with h | ⟨h, h2⟩
              · have g4 : decide (q < p1) = false := by simp; omega
                have g5 : (p1 == q) = false := by simp; omega
                clear h
                go_wp2
                go_quiet (fail)
                have HBe := Lib.hid (HBq.out.trans (below_drewN w5.heap.size wq nq))
                clear HBq HPQ z0 z1 w0 w1'
                generalize wq.drewN nq = we at *
                go_wp2
                go_roundw
                case rel => exact ⟨i + 1, by omega, by go_num, HBe.out⟩
                case measure => simp [intOf]; omega
              · subst h
                have g4 : decide (p1 < p1) = false := by simp
                have g5 : (p1 == p1) = true := by simp
                have g6 : decide ((j : Int) ≤ p2) = false := by simp; omega
                clear h2
                go_wp2
                go_quiet (fail)
                have HBe := Lib.hid (HBq.out.trans (below_drewN w5.heap.size wq nq))
                clear HBq HPQ z0 z1 w0 w1'
                generalize wq.drewN nq = we at *
                go_wp2
                go_roundw
                case rel => exact ⟨i + 1, by omega, by go_num, HBe.out⟩
                case measure => simp [intOf]; omega
          · obtain rfl : m = i := by omega
            have hYz := HO5.out.below hBz
            have hsz5 := hBz.size
            have HBW := Lib.hid (HB5.out.trans (hBz.mono HB5.out.size))
            have HYz := Lib.hid hYz
            have HIz := Lib.hid (hYz.it.2)
            clear hYz hBz HBz HI5 HO5 HB5
            go_wp2_with (first | (go_at_call 21; refine (sort_any _ _ _ _ _ HIz.out (by omega)).mono ?_; rintro e w7 ⟨g7, c7, rfl, h7, hb7⟩; have HO7 := Lib.hid h7; have HI7 := Lib.hid ((HIz.out.below hb7).raise hb7.size); have HB7 := Lib.hid (HBW.out.trans (hb7.mono HBW.out.size)); clear h7 hb7) | (go_at_call 20; refine (r4same_any _ _ _ _ _ _ _ _ (HO7.out.it).2 HI7.out (fun i hi => outs_again F m i) (by omega)).mono ?_; rintro e w8 ⟨rfl, hb8⟩; have HB8 := Lib.hid (HB7.out.trans (hb8.mono HB7.out.size)); clear hb8))
            go_ret
            exact ⟨rfl, HB8.out⟩

end Go.Proofs.Ytihffgcahfladaa
