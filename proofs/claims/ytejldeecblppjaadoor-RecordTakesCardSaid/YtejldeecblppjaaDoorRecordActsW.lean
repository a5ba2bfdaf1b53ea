/-
  Layer 17: an act's bytes are the document's, and it is taken from them: the law's walk.
-/
import Derived.Test.YtejldeecblppjaaDoorRcS
set_option linter.unusedVariables false
set_option maxRecDepth 100000
namespace Go.Proofs.YtejldeecblppjaaDoor
namespace Rc
open Go.RowKit Bp Ck
theorem aok_rg {k : Nat} {c p : Int} (h : Aok k c p) : ∀ f, f ∈ [3, 2] → rg f (natN (five 0 0 p c 0) f) := fun f hf => rg_le f _ (h.field f hf).1 (by have := (h.field f hf).2.2; unfold natN; omega)
theorem act_uniq {k k' : Nat} {c p c' p' : Int} (h : Aok k c p) (h' : Aok k' c' p') (e : pack (kb 2 k [3, 2] (natN (five 0 0 p c 0))) = pack (kb 2 k' [3, 2] (natN (five 0 0 p' c' 0)))) : k = k' ∧ c = c' ∧ p = p' := by
  obtain ⟨h1, h2⟩ := kb_uniq (F := fun _ => [3, 2]) (show k < 2 ^ 2 by have := h.1; omega) (show k' < 2 ^ 2 by have := h'.1; omega) (aok_rg h) (aok_rg h') (pack_fin _).1 (e ▸ (pack_fin _).1)
  have e3 : c.toNat = c'.toNat := h2 3 (by decide)
  have e2 : p.toNat = p'.toNat := h2 2 (by decide)
  have a := h.2
  have b := h'.2
  exact ⟨h1, by omega, by omega⟩
theorem TakeATold.yes {w w' : World} {k : Nat} {c p : Int} {e : Ending} (hok : Aok k c p) (h : TakeATold w (pack (kb 2 k [3, 2] (natN (five 0 0 p c 0)))) e w') : e = .returned (.tuple #[.agg #[.int .u8 (k : Int), .int .i64 c, .int .i64 p], .int .i64 0]) ∧ Below w.heap.size w w' := by
  obtain ⟨hb, ⟨k', c', p', hok', hz, rfl⟩ | ⟨hno, _⟩⟩ := h
  · obtain ⟨rfl, rfl, rfl⟩ := act_uniq hok hok' hz
    exact ⟨rfl, hb⟩
  · exact absurd rfl (hno k _ _ hok)
theorem act_len (k : Nat) (N : Nat → Nat) : (pack (kb 2 k [3, 2] N)).length = 2 := by
  rw [pack_length]
  simp [kb, fbits, fld, fw, bitsOf_length, nb]
theorem TakeATold.none_ {w w' : World} {e : Ending} (h : TakeATold w [] e w') : e = .returned (.tuple #[.agg #[.int .u8 0, .int .i64 0, .int .i64 0], .int .i64 170]) ∧ Below w.heap.size w w' := by
  obtain ⟨hb, ⟨k', c', p', hok', hz, rfl⟩ | ⟨hno, rfl⟩⟩ := h
  · have := congrArg List.length hz
    rw [act_len] at this
    simp at this
  · exact ⟨rfl, hb⟩
/-- The law's act lies in the first block behind w. -/
def Ha (k c p : Int) (w w' : World) : Prop := w'.heap[w.heap.size]? = some (.cells #[.int .u8 k, .int .i64 c, .int .i64 p] 33 (0, 0)) ∧ Shp w' ∧ Below w.heap.size w w'
theorem Ha.start {k c p : Int} {w : World} (hS : Shp w) : Ha k c p w (w.alloc (.cells #[.int .u8 k, .int .i64 c, .int .i64 p] 33)) := ⟨heap_alloc_new w _, hS.later (below_new w _), below_new w _⟩
theorem Ha.later {k c p : Int} {w w1 w2 : World} (h : Ha k c p w w1) (hb : Below w1.heap.size w1 w2) : Ha k c p w w2 := ⟨(hb.block _ (lt_of_heap h.1)).trans h.1, h.2.1.later hb, h.2.2.trans (hb.mono h.2.2.size)⟩
theorem Ha.cells {k c p : Int} {w w1 : World} (h : Ha k c p w w1) : w1.cell? ⟨w.heap.size, 0, none⟩ = some (.int .u8 k) ∧ w1.cell? ⟨w.heap.size, 1, none⟩ = some (.int .i64 c) ∧ w1.cell? ⟨w.heap.size, 2, none⟩ = some (.int .i64 p) := by
  have g := fun j => cell_of_row w1 w.heap.size j _ _ _ h.1
  exact ⟨g 0, g 1, g 2⟩
set_option maxHeartbeats 4000000 in
theorem recordActs_walk (k : Nat) (hk : k ≤ 255) (c p : Int) (w : World) (hS : Shp w) :
    Calls Tryd.prog 5 #[.agg #[.int .u8 (k : Int), .int .i64 c, .int .i64 p]] w fun e w' => e = .returned (.bool true) ∧ Below w.heap.size w w' := by
  have h0 := Ha.start (k := k) (c := c) (p := p) hS
  have H0 := Lib.hid h0
  by_cases hok : Aok k c p
  · have HL := Lib.hid (layAct_ok k c p _ hok h0.2.1)
    have HRL := Lib.hid (fun W => rlayAct_ok k c p W hok)
    have HOK := Lib.hid hok
    have HLEN := Lib.hid (act_len k (natN (five 0 0 p c 0)))
    clear h0 hS hok
    go_enter Tryd.func5, Tryd.ntmps5
    go_wp2_with fail
    refine HL.out.mono ?_
    intro e w1 ht
    obtain ⟨A1, c1, rfl, hy1, hb⟩ := ht.own (pack_byte _)
    have h1 := H0.out.later hb
    obtain ⟨y0, y1, y2⟩ := h1.cells
    rw [HLEN.out] at hy1 ⊢
    have HY1 := Lib.hid hy1
    have H1 := Lib.hid h1
    clear ht hb h1 hy1 HL H0
    go_wp2_with fail
    refine (HRL.out _).mono ?_
    intro e w2 ht
    obtain ⟨A2, c2, rfl, hy2, hb⟩ := ht.own (pack_byte _)
    have h2 := H1.out.later hb
    rw [HLEN.out] at hy2 ⊢
    have HY1 := Lib.hid ((by_later HY1.out (Nat.le_refl _) hb).mono hb.size)
    have HY2 := Lib.hid hy2
    have HT := Lib.hid (takeAct_any HY1.out (Nat.le_refl _) h2.2.1 (by decide))
    have H2 := Lib.hid h2
    clear y0 y1 y2 ht hb h2 hy2 HRL H1
    go_wp2_with fail
    refine HT.out.mono ?_
    intro e w3 ht
    obtain ⟨rfl, hb⟩ := ht.yes HOK.out
    have hb4 := below_new w3 (.cells #[.int .u8 (k : Int), .int .i64 c, .int .i64 p] 33)
    have h4 := (H2.out.later hb).later hb4
    have HY1 := Lib.hid ((by_later HY1.out (Nat.le_refl _) hb).below (hb4.mono hb.size))
    have HY2 := Lib.hid ((by_later HY2.out (Nat.le_refl _) hb).below (hb4.mono hb.size))
    have HX := Lib.hid (heap_alloc_new w3 (.cells #[.int .u8 (k : Int), .int .i64 c, .int .i64 p] 33))
    have HSW := Lib.hid (shown_any _ h4.2.1)
    have HSZ : Hid (w2.heap.size ≤ (w3.alloc (.cells #[.int .u8 (k : Int), .int .i64 c, .int .i64 p] 33)).heap.size) := Lib.hid (Nat.le_trans hb.size hb4.size)
    have H4 := Lib.hid h4
    clear ht hb hb4 h4 HT H2
    go_wp2_with fail
    generalize (w3.alloc (.cells #[.int .u8 (k : Int), .int .i64 c, .int .i64 p] 33)) = w4 at *
    refine HSW.out.mono ?_
    rintro e w5 ⟨rfl, hb⟩
    have h5 := H4.out.later hb
    have hx := (hb.block _ (lt_of_heap HX.out)).trans HX.out
    have z0 := cell_of_row _ w3.heap.size 0 _ _ _ hx
    have z1 := cell_of_row _ w3.heap.size 1 _ _ _ hx
    have z2 := cell_of_row _ w3.heap.size 2 _ _ _ hx
    obtain ⟨y0, y1, y2⟩ := h5.cells
    have q1 := (by_later HY1.out HSZ.out hb).conv
    have q2 := (by_later HY2.out HSZ.out hb).conv
    have H5 := Lib.hid h5
    generalize strOf (pack (kb 2 k [3, 2] (natN (five 0 0 p c 0)))) = S at *
    clear hb h5 hx HSW H4 HX HY1 HY2
    go_wp2
    go_ret
    exact ⟨by first | rfl | simp, H5.out.2.2⟩
  · have HL := Lib.hid (layAct_no k c p _ hok h0.2.1)
    have HRL := Lib.hid (fun W => rlayAct_no k c p W hok)
    clear h0 hS hok
    go_enter Tryd.func5, Tryd.ntmps5
    go_wp2_with fail
    refine HL.out.mono ?_
    rintro e w1 ⟨rfl, hb⟩
    have h1 := H0.out.later hb
    obtain ⟨y0, y1, y2⟩ := h1.cells
    have H1 := Lib.hid h1
    clear hb h1 HL H0
    go_wp2_with fail
    refine (HRL.out _).mono ?_
    rintro e w2 ⟨rfl, hb⟩
    have h2 := H1.out.later hb
    have HT := Lib.hid (takeAct_any (By.none_ w2.heap.size w2) (Nat.le_refl _) h2.2.1 (by decide))
    have H2 := Lib.hid h2
    clear y0 y1 y2 hb h2 HRL H1
    go_wp2_with fail
    refine HT.out.mono ?_
    intro e w3 ht
    obtain ⟨rfl, hb⟩ := ht.none_
    have h4 := (H2.out.later hb).later (below_new w3 (.cells #[.int .u8 0, .int .i64 0, .int .i64 0] 33))
    have HSW := Lib.hid (shown_any _ h4.2.1)
    have H4 := Lib.hid h4
    clear ht hb h4 HT H2
    go_wp2_with fail
    generalize (w3.alloc (.cells #[.int .u8 0, .int .i64 0, .int .i64 0] 33)) = w4 at *
    refine HSW.out.mono ?_
    rintro e w5 ⟨rfl, hb⟩
    have H5 := Lib.hid (H4.out.later hb)
    have q1 := (By.none_ w5.heap.size w5).conv
    generalize strOf [] = S at *
    clear hb HSW H4
    go_wp2
    go_ret
    exact ⟨by first | rfl | simp, H5.out.2.2⟩
end Rc
end Go.Proofs.YtejldeecblppjaaDoor
