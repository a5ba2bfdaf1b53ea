/-
  Layer 17: Lay and LayAct.
-/
import Derived.Test.YtobpinelhjpfgaaDoorRcB
import Derived.Deep.RegionHeld3
set_option linter.unusedVariables false
set_option maxRecDepth 100000
namespace Go.Proofs.YtobpinelhjpfgaaDoor
namespace Rc
open Go.RowKit Bp
theorem own_lower {w : World} {base base' : Nat} {e : TypeId} {size : Nat} {v : Value} {n : Nat} {xs : List Value} (h : w.ownsRow base e size v n xs) (hb : base' ≤ base) : w.ownsRow base' e size v n xs := by
  obtain ⟨h1, h2⟩ := h
  refine ⟨h1, ?_⟩
  rcases h2 with h2 | ⟨g, cap, cur, rfl, hg, r⟩
  · exact .inl h2
  · exact .inr ⟨g, cap, cur, rfl, by omega, r⟩
/-- What Lay gives: new bytes. -/
def LayTold (w : World) (zs : List Nat) (e : Ending) (w' : World) : Prop := ∃ A cp, e = .returned (.tuple #[.slice A zs.length cp, .int .i64 0]) ∧ w'.ownsRow w.heap.size 5 1 (.slice A zs.length cp) zs.length (bc zs) ∧ Below w.heap.size w w'
def recV (k i r p c q : Int) : Value := .agg #[.int .u8 k, .int .i64 i, .int .i64 r, .int .i64 p, .int .i64 c, .int .i64 q]
theorem Rok.kind {k : Nat} {N : Nat → Int} (h : Rok k N) : 1 ≤ k ∧ k ≤ 5 := by
  have h1 := h.1
  unfold fl at h1
  repeat' split at h1
  all_goals first | omega | exact absurd rfl h1
theorem Rok.field {k : Nat} {N : Nat → Int} (h : Rok k N) : ∀ f, f ∈ fl k → f < 5 ∧ 0 ≤ N f ∧ N f ≤ (fmx f : Int) := fun f hf => ⟨fl_lt k f hf, (h.2 f (fl_lt k f hf)).1⟩
/-- Three rows that stay. -/
theorem kept_cells {w4 wc : World} {R D : Nat} {a0 a1 a2 a3 a4 a5 d : Value} {t u : TypeId} (hr : w4.heap[R]? = some (.cells #[a0, a1, a2, a3, a4, a5] t (0, 0))) (hd : w4.heap[D]? = some (.cells #[d] u (0, 0))) (h1 : wc.heap[R]? = w4.heap[R]?) (h2 : wc.heap[D]? = w4.heap[D]?) :
    wc.cell? ⟨D, 0, none⟩ = some d ∧ wc.cell? ⟨R, 0, none⟩ = some a0 ∧ wc.cell? ⟨R, 1, none⟩ = some a1 ∧ wc.cell? ⟨R, 2, none⟩ = some a2 ∧ wc.cell? ⟨R, 3, none⟩ = some a3 ∧ wc.cell? ⟨R, 4, none⟩ = some a4 ∧ wc.cell? ⟨R, 5, none⟩ = some a5 := by
  have e1 := h1.trans hr
  have e2 := h2.trans hd
  exact ⟨by rw [cell_of_row _ D 0 _ _ _ e2]; rfl, by rw [cell_of_row _ R 0 _ _ _ e1]; rfl, by rw [cell_of_row _ R 1 _ _ _ e1]; rfl, by rw [cell_of_row _ R 2 _ _ _ e1]; rfl, by rw [cell_of_row _ R 3 _ _ _ e1]; rfl, by rw [cell_of_row _ R 4 _ _ _ e1]; rfl, by rw [cell_of_row _ R 5 _ _ _ e1]; rfl⟩
/-- Which acts may be. -/
def Aok (k : Nat) (c p : Int) : Prop := (1 ≤ k ∧ k ≤ 3) ∧ (0 ≤ c ∧ c ≤ 255) ∧ (0 ≤ p ∧ p ≤ 63) ∧ (k = 1 → p = 0)
instance (k : Nat) (c p : Int) : Decidable (Aok k c p) := by unfold Aok; exact inferInstance
theorem Aok.field {k : Nat} {c p : Int} (h : Aok k c p) : ∀ f, f ∈ [3, 2] → f < 5 ∧ 0 ≤ five 0 0 p c 0 f ∧ five 0 0 p c 0 f ≤ (fmx f : Int) := by
  intro f hf
  obtain ⟨_, h1, h2, _⟩ := h
  rcases List.mem_cons.1 hf with rfl | hf
  · exact ⟨by decide, h1.1, h1.2⟩
  · rcases List.mem_cons.1 hf with rfl | hf
    · exact ⟨by decide, h2.1, h2.2⟩
    · simp at hf
theorem rightAct_any (k : Nat) (c p : Int) (w : World) (h : Shp w) :
    Calls Tryd.prog 79 #[.agg #[.int .u8 (k : Int), .int .i64 c, .int .i64 p]] w fun e w' => e = .returned (.bool (decide (Aok k c p))) ∧ Below w.heap.size w w' := by
  have hb1 := below_new w (.cells #[.int .u8 k, .int .i64 c, .int .i64 p] 33)
  have hsh := h.later hb1
  have HM3 := Lib.hid (mayBe_any 3 (by decide) c _ hsh)
  have HM2 := Lib.hid (mayBe_any 2 (by decide) p _ hsh)
  have HB1 := Lib.hid hb1
  clear h hb1 hsh
  by_cases hc : 0 ≤ c ∧ c ≤ 255
  · have e1 : decide (0 ≤ c ∧ c ≤ (fmx 3 : Int)) = true := decide_eq_true hc
    rw [e1] at HM3
    by_cases h1 : k = 1
    · subst h1
      have hd : decide (Aok 1 c p) = (p == 0) := by
        rw [Bool.eq_iff_iff, decide_eq_true_eq, beq_iff_eq]
        unfold Aok
        omega
      rw [hd]
      clear e1 hc hd HM2
      go_enter Tryd.func79, Tryd.ntmps79
      go_wp2_with fail
      refine HM3.out.mono ?_
      rintro e w1 ⟨rfl, rfl⟩
      go_wp2
      go_ret
      exact ⟨rfl, HB1.out⟩
    · by_cases h2 : k = 2 ∨ k = 3
      · have hd : decide (Aok k c p) = decide (0 ≤ p ∧ p ≤ (fmx 2 : Int)) := by
          rw [decide_eq_decide]
          unfold Aok
          simp only [fmx]
          omega
        rw [hd]
        generalize decide (0 ≤ p ∧ p ≤ (fmx 2 : Int)) = y at *
        clear e1 hc hd h1
        rcases h2 with rfl | rfl
        all_goals
          go_enter Tryd.func79, Tryd.ntmps79
          go_wp2_with fail
          refine HM3.out.mono ?_
          rintro e w1 ⟨rfl, rfl⟩
          go_wp2_with fail
          refine HM2.out.mono ?_
          rintro e w1 ⟨rfl, rfl⟩
          go_wp2
          go_ret
          exact ⟨rfl, HB1.out⟩
      · have hd : decide (Aok k c p) = false := decide_eq_false (fun x => by have := x.1; omega)
        have d1 : ((k : Int) == 1) = false := by simp; omega
        have d2 : ((k : Int) == 2) = false := by simp; omega
        have d3 : ((k : Int) == 3) = false := by simp; omega
        rw [hd]
        clear e1 hc hd h1 h2 HM2 HM3
        go_enter Tryd.func79, Tryd.ntmps79
        go_wp2
        go_ret
        exact ⟨rfl, HB1.out⟩
  · have e1 : decide (0 ≤ c ∧ c ≤ (fmx 3 : Int)) = false := decide_eq_false hc
    rw [e1] at HM3
    have hd : decide (Aok k c p) = false := decide_eq_false (fun x => hc x.2.1)
    rw [hd]
    clear hd e1 hc HM2
    by_cases h1 : k = 1 ∨ k = 2 ∨ k = 3
    · rcases h1 with rfl | rfl | rfl
      all_goals
        go_enter Tryd.func79, Tryd.ntmps79
        go_wp2_with fail
        refine HM3.out.mono ?_
        rintro e w1 ⟨rfl, rfl⟩
        go_wp2
        go_ret
        exact ⟨rfl, HB1.out⟩
    · have d1 : ((k : Int) == 1) = false := by simp; omega
      have d2 : ((k : Int) == 2) = false := by simp; omega
      have d3 : ((k : Int) == 3) = false := by simp; omega
      clear h1 HM3
      go_enter Tryd.func79, Tryd.ntmps79
      go_wp2
      go_ret
      exact ⟨rfl, HB1.out⟩
theorem kept_cells3 {w4 wc : World} {R D : Nat} {a0 a1 a2 d : Value} {t u : TypeId} (hr : w4.heap[R]? = some (.cells #[a0, a1, a2] t (0, 0))) (hd : w4.heap[D]? = some (.cells #[d] u (0, 0))) (h1 : wc.heap[R]? = w4.heap[R]?) (h2 : wc.heap[D]? = w4.heap[D]?) :
    wc.cell? ⟨D, 0, none⟩ = some d ∧ wc.cell? ⟨R, 0, none⟩ = some a0 ∧ wc.cell? ⟨R, 1, none⟩ = some a1 ∧ wc.cell? ⟨R, 2, none⟩ = some a2 := by
  have e1 := h1.trans hr
  have e2 := h2.trans hd
  exact ⟨by rw [cell_of_row _ D 0 _ _ _ e2]; rfl, by rw [cell_of_row _ R 0 _ _ _ e1]; rfl, by rw [cell_of_row _ R 1 _ _ _ e1]; rfl, by rw [cell_of_row _ R 2 _ _ _ e1]; rfl⟩
set_option maxHeartbeats 2000000 in
theorem layAct_ok (k : Nat) (c p : Int) (w : World) (hok : Aok k c p) (hS : Shp w) :
    Calls Tryd.prog 44 #[.agg #[.int .u8 (k : Int), .int .i64 c, .int .i64 p]] w (LayTold w (pack (kb 2 k [3, 2] (natN (five 0 0 p c 0))))) := by
  have hk := hok.1
  have hb1 := below_new w (.cells #[.int .u8 k, .int .i64 c, .int .i64 p] 33)
  have hs1 : (w.alloc (.cells #[.int .u8 k, .int .i64 c, .int .i64 p] 33)).heap.size = w.heap.size + 1 := by simp
  have hr1 := heap_alloc_new w (.cells #[.int .u8 k, .int .i64 c, .int .i64 p] 33)
  have HR := Lib.hid (rightAct_any k c p _ (hS.later hb1))
  rw [decide_eq_true hok] at HR
  have hw : IntKind.u64.wrap (k : Int) = (k : Int) := IntWalk.u64_in _ ⟨by omega, by omega⟩
  have HP := Lib.hid hS.pos
  have HB1 := Lib.hid hb1
  have HS1 := Lib.hid hs1
  have HSH := Lib.hid (hS.later hb1)
  have HR1 := Lib.hid hr1
  have HOK := Lib.hid hok
  clear hok hS hb1 hs1 hr1
  go_enter Tryd.func44, Tryd.ntmps44
  go_wp2_with fail
  refine HR.out.mono ?_
  rintro e w1 ⟨rfl, hb⟩
  have HB2 := Lib.hid hb
  clear hb HR
  go_wp2_with fail
  refine (rcnewWriter_any _).mono ?_
  rintro e w2 ⟨b, rfl, hbb, hwr, hb⟩
  have hb12 := HB2.out.trans (hb.mono HB2.out.size)
  have hsz : w.heap.size + 1 ≤ w1.heap.size := by have := HB2.out.size; rw [HS1.out] at this; exact this
  have hw3 := wr_box hwr (.cells #[.pointer (some ⟨b, 0, none⟩)] 118)
  have hd3 := heap_alloc_new w2 (.cells #[.pointer (some ⟨b, 0, none⟩)] 118)
  have hb3 := hb12.alloc hb12.size (.cells #[.pointer (some ⟨b, 0, none⟩)] 118)
  have hr3 := (hb3.block w.heap.size (by rw [HS1.out]; omega)).trans HR1.out
  have hsh3 := HSH.out.later hb3
  have hlt := (hwr.lt (k := b) (.inl rfl)).2
  obtain ⟨x0, x1, x2, x3⟩ := kept_cells3 hr3 hd3 rfl rfl
  have HW3 := Lib.hid hw3
  have HD3 := Lib.hid hd3
  have HB3 := Lib.hid hb3
  have HR3 := Lib.hid hr3
  have HSH3 := Lib.hid hsh3
  have HSZ : Hid (w.heap.size < b ∧ b < w2.heap.size ∧ (w2.alloc (.cells #[.pointer (some ⟨b, 0, none⟩)] 118)).heap.size = w2.heap.size + 1) := Lib.hid ⟨by omega, hlt, by simp⟩
  clear hb hb12 hw3 hd3 hb3 hr3 hsh3 hwr hlt hbb HB2 HR1 HSH hsz
  go_wp2_with fail
  generalize (w2.alloc (.cells #[.pointer (some ⟨b, 0, none⟩)] 118)) = w3 at *
  refine (put_int (n := k) HW3.out (by omega) 2 2 rfl (by decide) (by decide)).mono ?_
  rintro e w4 ⟨rfl, v4, hw4, ht4⟩
  have hnf : ¬ WF b v4 w2.heap.size := fun x => by
    rcases ht4.foot _ x with y | y
    · rcases y with y | y
      · have := HSZ.out; omega
      · simp [Value.ownBlock] at y
    · have := HSZ.out; omega
  have hr4 := (ht4.block w.heap.size (by have := HSZ.out; omega) (fun x => by have := (HW3.out.lt x).1; have := HSZ.out; omega)).trans HR3.out
  have hd4 := (ht4.block w2.heap.size (by have := HSZ.out; omega) (fun x => by rcases x with x | x; (have := HSZ.out; omega); (simp [Value.ownBlock] at x))).trans HD3.out
  have hsh4 := HSH3.out.of (ht4.block 0 HSH3.out.pos (fun x => by have := (HW3.out.lt x).1; have := HSZ.out; have := HP.out; omega))
  have hb4 : Below w.heap.size w w4 := HB1.out.trans ((HB3.out.mono HB1.out.size).trans (ht4.below w.heap.size (by have := HSZ.out; omega) (fun x hx => by have := (HW3.out.lt hx).1; have := HSZ.out; omega)))
  have HLT : Hid (w.heap.size < w4.heap.size ∧ w2.heap.size < w4.heap.size) := Lib.hid (by have := ht4.size; have := HSZ.out; omega)
  have HCE : Hid (∀ wc, Below w4.heap.size w4 wc → _) := Lib.hid (fun wc hwc => kept_cells3 (wc := wc) hr4 hd4 (hwc.block w.heap.size HLT.out.1) (hwc.block w2.heap.size HLT.out.2))
  have HCE2 : Hid (∀ wc w5 m, Below w4.heap.size w4 wc → Lays wc b v4 ([] ++ bitsOf k 2) m w5 → _) := Lib.hid (fun wc w5 m hwc hl => kept_cells3 (wc := w5) hr4 hd4
    (by obtain ⟨v5, _, ht5⟩ := hl
        rw [ht5.block w.heap.size (by have := hwc.size; have := HLT.out; omega) (fun x => by have := (hw4.lt x).1; have := HSZ.out; omega)]
        exact hwc.block w.heap.size HLT.out.1)
    (by obtain ⟨v5, _, ht5⟩ := hl
        rw [ht5.block w2.heap.size (by have := hwc.size; have := HLT.out; omega) hnf]
        exact hwc.block w2.heap.size HLT.out.2))
  clear x0 x1 x2 x3
  obtain ⟨x0, x1, x2, x3⟩ := HCE.out _ (Below.refl _ w4)
  have HW4 := Lib.hid hw4
  have HSH4 := Lib.hid hsh4
  have HB4 := Lib.hid hb4
  have HBc := Lib.hid ((Below.refl w4.heap.size w4).drew)
  have hwfb : ∀ j, WF b v4 j → j < w4.heap.size := fun j hj => (hw4.lt hj).2
  have HWF := Lib.hid hwfb
  clear hw4 ht4 hr4 hd4 hsh4 hb4 HR3 HD3 HB3 HSH3 HW3 hnf hwfb
  go_wp2_with fail
  go_region_held3 (fun w' => w'.cell? ⟨w2.heap.size, 0, none⟩ = some (.pointer (some ⟨b, 0, none⟩)) ∧ w'.cell? ⟨w.heap.size, 0, none⟩ = some (.int .u8 (k : Int)) ∧ w'.cell? ⟨w.heap.size, 1, none⟩ = some (.int .i64 c) ∧ w'.cell? ⟨w.heap.size, 2, none⟩ = some (.int .i64 p))
    (first | exact HCE.out _ HBc.out | assumption | go_keep)
    ((first
      | (go_at_call 82; refine (rcspread_any [3, 2] 0 0 p c 0 b v4 ([] ++ bitsOf k 2) _ _ (HW4.out.below HBc.out) (HSH4.out.later HBc.out) (by have := HSZ.out; omega) HF.out HWF.out HOK.out.field (by decide) (by rw [List.nil_append, bitsOf_length]; decide)).mono ?_; rintro e w9 ⟨rfl, hl9⟩; have HL9 := Lib.hid hl9; obtain ⟨x0, x1, x2, x3⟩ := HCE2.out _ _ _ HBc.out hl9; clear hl9)
      | (go_at_call 83; refine (actFields_any _).mono ?_; rintro e wa ⟨lv, rfl, hf, hb⟩; have HF := Lib.hid (hf.mono HBc.out.size); have HBc := Lib.hid (HBc.out.trans (hb.mono HBc.out.size)); obtain ⟨x0, x1, x2, x3⟩ := HCE.out _ HBc.out; clear hf hb)
      | fail))
  all_goals
    have hwb := Wb.lays (HW4.out.below HBc.out) (HB4.out.trans (HBc.out.mono HB4.out.size)) (by have := HSZ.out; omega) HL9.out
    have HWB := Lib.hid hwb
    clear hwb HL9 HF
    go_wp2_with fail
    refine (wb_out _ _ _ _ _ HWB.out).mono ?_
    rintro e w7 ⟨oa, oc, rfl, ho, hw7⟩
    have HO := Lib.hid (own_lower ho HWB.out.size)
    have HB7 := Lib.hid hw7.below
    have HLN : Hid ((pack (kb 2 k [3, 2] (natN (five 0 0 p c 0)))).length = nb ([] ++ bitsOf k 2 ++ fbits [3, 2] (natN (five 0 0 p c 0))).length) := Lib.hid (by rw [pack_length]; rfl)
    clear ho hw7
    generalize nb ([] ++ bitsOf k 2 ++ fbits [3, 2] (natN (five 0 0 p c 0))).length = N at *
    go_wp2
    go_ret2
    exact ⟨oa, oc, by rw [HLN.out]; rfl, by rw [HLN.out]; exact HO.out, HB7.out⟩
theorem layAct_no (k : Nat) (c p : Int) (w : World) (hno : ¬ Aok k c p) (hS : Shp w) :
    Calls Tryd.prog 44 #[.agg #[.int .u8 (k : Int), .int .i64 c, .int .i64 p]] w fun e w' => e = .returned (.tuple #[.slice none 0 0, .int .i64 1]) ∧ Below w.heap.size w w' := by
  have hb1 := below_new w (.cells #[.int .u8 k, .int .i64 c, .int .i64 p] 33)
  have HR := Lib.hid (rightAct_any k c p _ (hS.later hb1))
  rw [decide_eq_false hno] at HR
  have HB1 := Lib.hid hb1
  clear hno hS hb1
  go_enter Tryd.func44, Tryd.ntmps44
  go_wp2_with fail
  refine HR.out.mono ?_
  rintro e w1 ⟨rfl, hb⟩
  have HB2 := Lib.hid (HB1.out.trans (hb.mono HB1.out.size))
  clear hb HR
  go_wp2
  go_ret2
  exact ⟨rfl, HB2.out⟩
end Rc
end Go.Proofs.YtobpinelhjpfgaaDoor
